// Package num is layer 1: see shared/doc/01-num.md.
package num

import "cautery/api"

const (
	// longest is how many bytes a short number has at most: nine of seven bits, and one for the last bit of 64.
	longest = 10
	// whole is how many bytes a whole number has.
	whole = 4
	// more is what all bytes of a short number but the last one have on top.
	more = 128
)

// Put: a short number more.
func Put(b []byte, n uint64) []byte {
	return behind(b, short(n))
}

// Take: a short number off.
func Take(b []byte) (uint64, []byte, api.Errno) {
	n, size, e := lead(b)
	if e != api.OK {
		return 0, nil, e
	}
	return n, fresh(b[size:]), api.OK
}

// Put32: a whole number more.
func Put32(b []byte, n uint32) []byte {
	return behind(b, []byte{byte(n), byte(n >> 8), byte(n >> 16), byte(n >> 24)})
}

// Take32: a whole number off.
func Take32(b []byte) (uint32, []byte, api.Errno) {
	if len(b) < whole {
		return 0, nil, api.ErrShort
	}
	n := uint32(b[0]) | uint32(b[1])<<8 | uint32(b[2])<<16 | uint32(b[3])<<24
	return n, fresh(b[whole:]), api.OK
}

// PutString: a string more.
func PutString(b, s []byte) []byte {
	return behind(b, short(uint64(len(s))), s)
}

// TakeString: a string off.
func TakeString(b []byte, most int) ([]byte, []byte, api.Errno) {
	n, size, e := lead(b)
	if e != api.OK {
		return nil, nil, e
	}
	if most < 0 || n > uint64(most) {
		return nil, nil, api.ErrLarge
	}
	// n is at most `most` here, so it is an int.
	return cut(b[size:], int(n))
}

// TakeBytes: so many bytes off.
func TakeBytes(b []byte, n int) ([]byte, []byte, api.Errno) {
	if n < 0 {
		return nil, nil, api.ErrArg
	}
	return cut(b, n)
}

// behind lays the parts behind b in new memory: b's own spare room belongs to the caller.
func behind(b []byte, parts ...[]byte) []byte {
	size := len(b)
	for _, p := range parts {
		size += len(p)
	}
	out := make([]byte, size)
	at := copy(out, b)
	for _, p := range parts {
		at += copy(out[at:], p)
	}
	return out
}

// fresh is b in new memory, without spare room, so that no answer shares any with an argument.
func fresh(b []byte) []byte {
	return behind(b)
}

// cut parts b, both parts in new memory; n is not below 0.
func cut(b []byte, n int) ([]byte, []byte, api.Errno) {
	if n > len(b) {
		return nil, nil, api.ErrShort
	}
	return fresh(b[:n]), fresh(b[n:]), api.OK
}

// short is n as a short number.
func short(n uint64) []byte {
	out := make([]byte, 0, longest)
	for n >= more {
		out = append(out, byte(n%more)+more)
		n /= more
	}
	return append(out, byte(n))
}

// lead is the short number that b begins with, and how many bytes it has.
func lead(b []byte) (uint64, int, api.Errno) {
	var n uint64
	for i, c := range b {
		// The last byte that there may be has room for one bit: more is above 2^64 - 1, or does not end.
		if i == longest-1 && c > 1 {
			return 0, 0, api.ErrForm
		}
		n |= uint64(c%more) << (7 * uint(i))
		if c >= more {
			continue
		}
		// A byte 0 behind others would be a second way to write the same number.
		if c == 0 && i > 0 {
			return 0, 0, api.ErrForm
		}
		return n, i + 1, api.OK
	}
	return 0, 0, api.ErrShort
}
