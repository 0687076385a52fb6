package sha_test

import (
	"bytes"
	"crypto/sha256"
	"encoding/hex"
	"math/big"
	"slices"
	"testing"

	"cautery/sha"
)

// known are hashes that are published, and the chapter's own.
func known() []struct {
	b    []byte
	hash string
} {
	return []struct {
		b    []byte
		hash string
	}{
		{nil, "e3b0c44298fc1c149afbf4c8996fb92427ae41e4649b934ca495991b7852b855"},
		{[]byte{}, "e3b0c44298fc1c149afbf4c8996fb92427ae41e4649b934ca495991b7852b855"},
		{[]byte("abc"), "ba7816bf8f01cfea414140de5dae2223b00361a396177a9cb410ff61f20015ad"},
		{[]byte("abcdbcdecdefdefgefghfghighijhijkijkljklmklmnlmnomnopnopq"), "248d6a61d20638b8e5c026930c3e6039a33ce45964ff2167f6ecedd419db06c1"},
		{[]byte("abcdefghbcdefghicdefghijdefghijkefghijklfghijklmghijklmnhijklmnoijklmnopjklmnopqklmnopqrlmnopqrsmnopqrstnopqrstu"), "cf5b16a778af8380036ce59e7b0492370b249b11e8f07a51afac45037afee9d1"},
		{bytes.Repeat([]byte("a"), 1000000), "cdc76e5c9914fb9281a1c7e284d73e67f1809a48a497200e046d39ccc7112cd0"},
		{[]byte{0xbd}, "68325720aabd7c82f30f554b313d0570c95accbb7dc4b5aae11204c08ffe732b"},
		{make([]byte, 55), "02779466cdec163811d078815c633f21901413081449002f24aa3e80f0b88ef7"},
		{make([]byte, 56), "d4817aa5497628e7c77e6b606107042bbba3130888c5f47a375e6179be789fbb"},
		{make([]byte, 64), "f5a5fd42d16a20302798ef6ed309979b43003d2320d9f0e8ea9831a92759fb4b"},
	}
}

// mixed are so many bytes of all kinds, always the same ones.
func mixed(n int) []byte {
	out := make([]byte, n)
	x := uint32(n) + 12345
	for i := range out {
		x = x*1664525 + 1013904223
		out[i] = byte(x >> 24)
	}
	return out
}

// hashes are so many hashes, no two of them the same.
func hashes(n int) [][32]byte {
	out := make([][32]byte, n)
	for i := range out {
		out[i] = sha256.Sum256([]byte{byte(i), byte(i >> 8), 7})
	}
	return out
}

// roomy is b with room behind its end, which nobody may write to.
func roomy(b []byte) []byte {
	out := append(make([]byte, 0, len(b)+100), b...)
	for i := len(b); i < cap(out); i++ {
		out[:cap(out)][i] = 77
	}
	return out
}

// roomKept tells whether the room that roomy laid out is as it was.
func roomKept(b []byte) bool {
	return !slices.ContainsFunc(b[len(b):cap(b)], func(c byte) bool { return c != 77 })
}

// P2.1, B1: hashes that are published.
func TestSumOfKnownBytes(t *testing.T) {
	for _, x := range known() {
		h := sha.Sum(x.b)
		if got := hex.EncodeToString(h[:]); got != x.hash {
			t.Errorf("Sum of %d bytes: %s, want %s", len(x.b), got, x.hash)
		}
	}
}

// P2.1, B1: every length around the ends of blocks and of the padding, held against the library.
func TestSumOfAllLengths(t *testing.T) {
	for n := range 600 {
		for _, b := range [][]byte{mixed(n), make([]byte, n), bytes.Repeat([]byte{255}, n), bytes.Repeat([]byte{128}, n)} {
			if got, want := sha.Sum(b), sha256.Sum256(b); got != want {
				t.Fatalf("Sum of %d bytes: %x, want %x", n, got, want)
			}
		}
	}
}

// root is the whole part of the k-th root of n.
func root(n *big.Int, k int) *big.Int {
	low, high := big.NewInt(0), big.NewInt(0).Set(n)
	for low.Cmp(high) < 0 {
		mid := new(big.Int).Add(low, high)
		mid.Add(mid, big.NewInt(1)).Rsh(mid, 1)
		if new(big.Int).Exp(mid, big.NewInt(int64(k)), nil).Cmp(n) <= 0 {
			low = mid
		} else {
			high = mid.Sub(mid, big.NewInt(1))
		}
	}
	return low
}

// behindPoint are the first 32 bits behind the point of the k-th root of n.
func behindPoint(n int64, k int) uint32 {
	scaled := new(big.Int).Lsh(big.NewInt(n), uint(32*k))
	return uint32(root(scaled, k).Uint64())
}

// firstPrimes are the first n primes.
func firstPrimes(n int) []int64 {
	var out []int64
	for p := int64(2); len(out) < n; p++ {
		if !slices.ContainsFunc(out, func(q int64) bool { return p%q == 0 }) {
			out = append(out, p)
		}
	}
	return out
}

// rotated is x with its lowest n bits moved ahead.
func rotated(x uint32, n uint) uint32 { return x>>n | x<<(32-n) }

// wordsHash is the hash as the chapter's words tell it, its numbers worked out from the primes.
func wordsHash(b []byte) [32]byte {
	primes := firstPrimes(64)
	var h [8]uint32
	for i := range h {
		h[i] = behindPoint(primes[i], 2)
	}
	padded := append(bytes.Clone(b), 128)
	for len(padded)%64 != 56 {
		padded = append(padded, 0)
	}
	for i := 7; i >= 0; i-- {
		padded = append(padded, byte(uint64(len(b))*8>>(8*i)))
	}
	for ; len(padded) > 0; padded = padded[64:] {
		var w [64]uint32
		for t := range w {
			if t < 16 {
				for _, c := range padded[4*t : 4*t+4] {
					w[t] = w[t]*256 + uint32(c)
				}
				continue
			}
			y, x := w[t-2], w[t-15]
			w[t] = rotated(y, 17) ^ rotated(y, 19) ^ y>>10
			w[t] += w[t-7] + w[t-16] + (rotated(x, 7) ^ rotated(x, 18) ^ x>>3)
		}
		v := h
		for t := range w {
			a, e := v[0], v[4]
			t1 := v[7] + (rotated(e, 6) ^ rotated(e, 11) ^ rotated(e, 25)) + (e&v[5] ^ ^e&v[6]) + behindPoint(primes[t], 3) + w[t]
			t2 := (rotated(a, 2) ^ rotated(a, 13) ^ rotated(a, 22)) + (a&v[1] ^ a&v[2] ^ v[1]&v[2])
			v = [8]uint32{t1 + t2, v[0], v[1], v[2], v[3] + t1, v[4], v[5], v[6]}
		}
		for i := range h {
			h[i] += v[i]
		}
	}
	var out [32]byte
	for i := range out {
		out[i] = byte(h[i/4] >> (8 * (3 - i%4)))
	}
	return out
}

// P2.1, B1: the hash as the chapter's words tell it, step by step.
func TestSumAsTheWordsSay(t *testing.T) {
	for _, n := range []int{0, 1, 3, 55, 56, 63, 64, 65, 119, 120, 128, 200} {
		b := mixed(n)
		if got, want := sha.Sum(b), wordsHash(b); got != want {
			t.Errorf("Sum of %d bytes: %x, the words give %x", n, got, want)
		}
	}
}

// P2.1, B1 and B2: how many bits there are goes beyond 32 bits of them.
func TestManyBytes(t *testing.T) {
	piece := mixed(1 << 20)
	h, want := sha.New(), sha256.New()
	for range 1 << 9 {
		h.Write(piece)
		want.Write(piece)
	}
	for range 2 {
		if got := h.Sum(); !bytes.Equal(got[:], want.Sum(nil)) {
			t.Errorf("of 2^32 bits and more: %x, want %x", got, want.Sum(nil))
		}
		h.Write([]byte("end"))
		want.Write([]byte("end"))
	}
}

// P2.1, B1: the hash of the parts, one behind the other; of no parts that of nothing.
func TestAll(t *testing.T) {
	long := mixed(200)
	for _, parts := range [][][]byte{
		nil,
		{},
		{nil},
		{{}, nil, {}},
		{[]byte("abc")},
		{[]byte("a"), []byte("b"), []byte("c")},
		{nil, []byte("a"), {}, []byte("bc"), nil},
		{long, long},
		{long[:64], long[64:128], long[128:]},
		{long[:63], long[63:65], long[65:]},
		{{0}, {}, {0}},
	} {
		want := sha256.Sum256(slices.Concat(parts...))
		if got := sha.All(parts...); got != want {
			t.Errorf("All(%v) = %x, want %x", parts, got, want)
		}
	}
	if got, want := sha.All(), sha256.Sum256(nil); got != want {
		t.Errorf("All() = %x, want %x", got, want)
	}
	if sha.All([]byte("a"), []byte("b")) == sha.All([]byte("b"), []byte("a")) {
		t.Error("All does not hang on the order of its parts")
	}
}

// pairwise is Tree in another way: level by level, what is left over at the end of a level waits.
func pairwise(l [][32]byte) [32]byte {
	if len(l) == 0 {
		return [32]byte{}
	}
	for len(l) > 1 {
		var next [][32]byte
		for i := 0; i < len(l); i += 2 {
			if i+1 == len(l) {
				next = append(next, l[i])
				continue
			}
			next = append(next, sha256.Sum256(slices.Concat(l[i][:], l[i+1][:])))
		}
		l = next
	}
	return l[0]
}

// two is the hash of two hashes, one behind the other.
func two(a, b [32]byte) [32]byte { return sha256.Sum256(slices.Concat(a[:], b[:])) }

// P2.1, B1: Tree of few, written out.
func TestTreeOfFew(t *testing.T) {
	l := hashes(7)
	four := two(two(l[0], l[1]), two(l[2], l[3]))
	for n, want := range [][32]byte{
		{},
		l[0],
		two(l[0], l[1]),
		two(two(l[0], l[1]), l[2]),
		four,
		two(four, l[4]),
		two(four, two(l[4], l[5])),
		two(four, two(two(l[4], l[5]), l[6])),
	} {
		if got := sha.Tree(l[:n]); got != want {
			t.Errorf("Tree of %d: %x, want %x", n, got, want)
		}
	}
	if got := sha.Tree(nil); got != ([32]byte{}) {
		t.Errorf("Tree(nil) = %x", got)
	}
}

// P2.1, B1: Tree of many, held against a way that goes level by level.
func TestTreeOfMany(t *testing.T) {
	l := hashes(1030)
	for _, n := range []int{8, 9, 15, 16, 17, 31, 32, 33, 63, 64, 65, 100, 255, 256, 257, 1000, 1023, 1024, 1025, 1030} {
		if got, want := sha.Tree(l[:n]), pairwise(l[:n]); got != want {
			t.Errorf("Tree of %d: %x, want %x", n, got, want)
		}
	}
}

// P2.1, B1: a hash of noughts is a hash like others.
func TestTreeOfNoughts(t *testing.T) {
	var nought [32]byte
	if got := sha.Tree([][32]byte{nought}); got != nought {
		t.Errorf("Tree of one of noughts: %x", got)
	}
	if got, want := sha.Tree(make([][32]byte, 2)), two(nought, nought); got != want {
		t.Errorf("Tree of two of noughts: %x, want %x", got, want)
	}
}

// P2.1, B1: the first 4 bytes in hexadecimal digits, small letters.
func TestText(t *testing.T) {
	if got := sha.Text(sha.Sum([]byte("abc"))); got != "ba7816bf" {
		t.Errorf("Text of the hash of abc: %q", got)
	}
	for i := range 256 {
		h := [32]byte{byte(i), byte(255 - i), byte(i * 7), byte(i ^ 0x5a), 0x99}
		if got, want := sha.Text(h), hex.EncodeToString(h[:4]); got != want {
			t.Errorf("Text(%x) = %q, want %q", h, got, want)
		}
	}
	if got := sha.Text([32]byte{}); got != "00000000" {
		t.Errorf("Text of noughts: %q", got)
	}
}

// P2.1, B2: New is of nothing, and Sum answers all that was written so far, each time.
func TestHashGoesOn(t *testing.T) {
	h := sha.New()
	var all []byte
	for i := range 200 {
		want := sha256.Sum256(all)
		if got := h.Sum(); got != want {
			t.Fatalf("Sum of %d bytes: %x, want %x", len(all), got, want)
		}
		if got := h.Sum(); got != want {
			t.Fatalf("Sum of %d bytes, again: %x, want %x", len(all), got, want)
		}
		piece := mixed(i % 67)
		h.Write(piece)
		all = append(all, piece...)
	}
}

// P2.1, B2: nothing written changes nothing, wherever it is written.
func TestWriteNothing(t *testing.T) {
	for n := range 130 {
		h := sha.New()
		h.Write(nil)
		h.Write(mixed(n))
		h.Write([]byte{})
		h.Write(nil)
		if got, want := h.Sum(), sha256.Sum256(mixed(n)); got != want {
			t.Errorf("of %d bytes, and nothing: %x, want %x", n, got, want)
		}
	}
}

// P2.1, B2, R1: a nil hash, and one that New did not make.
func TestNilAndZeroHash(t *testing.T) {
	var none *sha.Hash
	if got := none.Sum(); got != ([32]byte{}) {
		t.Errorf("Sum of nil: %x", got)
	}
	none.Write(nil)
	none.Write([]byte("abc"))
	none.Write(mixed(300))
	if got := none.Sum(); got != ([32]byte{}) {
		t.Errorf("Sum of nil, written to: %x", got)
	}
	var zero sha.Hash
	if got, want := zero.Sum(), sha256.Sum256(nil); got != want {
		t.Errorf("Sum of a zero hash: %x, want %x", got, want)
	}
	zero.Write(mixed(100))
	if got, want := zero.Sum(), sha256.Sum256(mixed(100)); got != want {
		t.Errorf("Sum of a zero hash, written to: %x, want %x", got, want)
	}
}

// P2.2: one cut at any place gives the same hash.
func TestCutInTwo(t *testing.T) {
	for _, n := range []int{1, 55, 56, 64, 65, 128, 200} {
		b := mixed(n)
		want := sha.Sum(b)
		for i := range n + 1 {
			h := sha.New()
			h.Write(b[:i])
			h.Write(b[i:])
			if got := h.Sum(); got != want {
				t.Errorf("%d bytes cut at %d: %x, want %x", n, i, got, want)
			}
			if got := sha.All(b[:i], b[i:]); got != want {
				t.Errorf("All of %d bytes cut at %d: %x, want %x", n, i, got, want)
			}
		}
	}
}

// P2.2: pieces of one size, of every size, and of sizes that change, summed between or not.
func TestCutInPieces(t *testing.T) {
	b := mixed(1000)
	want := sha.Sum(b)
	for size := 1; size <= 260; size++ {
		for grow := range 3 {
			h, summed := sha.New(), sha.New()
			var parts [][]byte
			for at, n := 0, size; at < len(b); n += grow {
				end := min(at+n, len(b))
				h.Write(b[at:end])
				summed.Write(b[at:end])
				summed.Sum()
				parts = append(parts, b[at:end])
				at = end
			}
			if h.Sum() != want || summed.Sum() != want || sha.All(parts...) != want {
				t.Errorf("in pieces of %d bytes, each %d more: another hash", size, grow)
			}
		}
	}
}

// P2.2: a byte more, a byte less, a byte another way is another hash.
func TestOtherBytesOtherHash(t *testing.T) {
	b := mixed(130)
	want := sha.Sum(b)
	for i := range b {
		c := bytes.Clone(b)
		c[i] ^= 1 << (i % 8)
		if sha.Sum(c) == want || sha.Sum(b[:i]) == want {
			t.Errorf("other bytes at %d: the same hash", i)
		}
	}
	if sha.Sum(append(bytes.Clone(b), 0)) == want {
		t.Error("a nought more: the same hash")
	}
}

// R4: what is handed in is not changed, nor the room behind it.
func TestArgumentsStay(t *testing.T) {
	for _, n := range []int{0, 5, 55, 56, 64, 100} {
		b := roomy(mixed(n))
		parts := [][]byte{b, nil, b}
		sha.Sum(b)
		sha.All(parts...)
		h := sha.New()
		h.Write(b)
		h.Sum()
		if !bytes.Equal(b, mixed(n)) || !roomKept(b) {
			t.Errorf("%d bytes: what was handed in was changed", n)
		}
		if len(parts) != 3 || !bytes.Equal(parts[0], b) || parts[1] != nil || !bytes.Equal(parts[2], b) {
			t.Errorf("%d bytes: the list of parts was changed", n)
		}
	}
	l := hashes(13)
	sha.Tree(l[:11])
	if !slices.Equal(l, hashes(13)) {
		t.Error("Tree changed its hashes")
	}
}

// R4: what was written is not kept: changing it later changes no hash.
func TestWrittenIsNotKept(t *testing.T) {
	for _, n := range []int{5, 64, 100} {
		b := mixed(n)
		h := sha.New()
		h.Write(b)
		want := h.Sum()
		clear(b)
		if got := h.Sum(); got != want {
			t.Errorf("%d bytes, changed later: %x, want %x", n, got, want)
		}
	}
}

// R5: hashes that go on side by side know nothing of each other, and a copy goes its own way.
func TestHashesApart(t *testing.T) {
	a, b := sha.New(), sha.New()
	for i := range 50 {
		a.Write(mixed(i))
		b.Write([]byte{byte(i)})
		sha.Sum(mixed(i))
	}
	var all, few []byte
	for i := range 50 {
		all, few = append(all, mixed(i)...), append(few, byte(i))
	}
	if a.Sum() != sha256.Sum256(all) || b.Sum() != sha256.Sum256(few) {
		t.Error("two hashes side by side: not their own")
	}
	c := *b
	c.Write(mixed(90))
	if b.Sum() != sha256.Sum256(few) || c.Sum() != sha256.Sum256(append(few, mixed(90)...)) {
		t.Error("a hash and its copy: not their own")
	}
	if sha.New().Sum() != sha256.Sum256(nil) {
		t.Error("New: not of nothing")
	}
}
