package num_test

import (
	"bytes"
	"encoding/binary"
	"math"
	"slices"
	"testing"

	"cautery/api"
	"cautery/num"
)

// shortForms are short numbers as the chapter's words give them, worked out by hand.
var shortForms = []struct {
	n uint64
	b []byte
}{
	{0, []byte{0}},
	{1, []byte{1}},
	{127, []byte{127}},
	{128, []byte{128, 1}},
	{129, []byte{129, 1}},
	{255, []byte{255, 1}},
	{300, []byte{172, 2}},
	{16383, []byte{255, 127}},
	{16384, []byte{128, 128, 1}},
	{1 << 32, []byte{128, 128, 128, 128, 16}},
	{1<<63 - 1, []byte{255, 255, 255, 255, 255, 255, 255, 255, 127}},
	{1 << 63, []byte{128, 128, 128, 128, 128, 128, 128, 128, 128, 1}},
	{1<<63 + 5, []byte{133, 128, 128, 128, 128, 128, 128, 128, 128, 1}},
	{math.MaxUint64, []byte{255, 255, 255, 255, 255, 255, 255, 255, 255, 1}},
}

// wholeForms are whole numbers of 32 bits, the lowest byte first.
var wholeForms = []struct {
	n uint32
	b []byte
}{
	{0, []byte{0, 0, 0, 0}},
	{1, []byte{1, 0, 0, 0}},
	{258, []byte{2, 1, 0, 0}},
	{0x01020304, []byte{4, 3, 2, 1}},
	{1 << 31, []byte{0, 0, 0, 128}},
	{math.MaxUint32, []byte{255, 255, 255, 255}},
}

// fronts are what numbers and strings are laid behind.
func fronts() [][]byte {
	return [][]byte{nil, {}, {0}, {128}, {255, 0, 7}, bytes.Repeat([]byte{9}, 300)}
}

// numbers are the edges of each length of a short number, and some between.
func numbers() []uint64 {
	l := []uint64{0, 1, 300, math.MaxUint64, math.MaxUint64 - 1}
	for i := range 64 {
		one := uint64(1) << i
		l = append(l, one-1, one, one+1, one*3, one*0x9e3779b97f4a7c15)
	}
	return l
}

// spoilt is a byte that stands in none of the lists that are held apart.
const spoilt = 0xEE

// roomy is b with room behind its end, which nobody may write to.
func roomy(b []byte) []byte {
	out := make([]byte, len(b), len(b)+32)
	copy(out, b)
	for i := len(b); i < cap(out); i++ {
		out[:cap(out)][i] = 77
	}
	return out
}

// roomKept tells whether the room that roomy laid out is as it was.
func roomKept(b []byte) bool {
	for _, c := range b[len(b):cap(b)] {
		if c != 77 {
			return false
		}
	}
	return true
}

// spoil writes over all of b, its spare room too.
func spoil(b []byte) {
	b = b[:cap(b)]
	for i := range b {
		b[i] = spoilt
	}
}

// apart fails if writing to one of the lists, or to its spare room, is seen in another one.
func apart(t *testing.T, what string, lists ...[]byte) {
	t.Helper()
	for i := range lists {
		kept := make([][]byte, len(lists))
		for j, l := range lists {
			kept[j] = bytes.Clone(l[:cap(l)])
		}
		spoil(lists[i])
		for j, l := range lists {
			if j != i && !bytes.Equal(l[:cap(l)], kept[j]) {
				t.Errorf("%s: list %d shares memory with list %d", what, i, j)
			}
			copy(l[:cap(l)], kept[j])
		}
	}
}

// P1.1, A1: b, and behind it the number.
func TestPutLaysShortNumbers(t *testing.T) {
	for _, front := range fronts() {
		for _, x := range shortForms {
			want := slices.Concat(front, x.b)
			if got := num.Put(front, x.n); !bytes.Equal(got, want) {
				t.Errorf("Put(%v, %d) = %v, want %v", front, x.n, got, want)
			}
		}
	}
}

// P1.1, A1: all numbers of all lengths, held against the library's own form of them.
func TestPutLikeTheLibrary(t *testing.T) {
	for _, n := range numbers() {
		want := binary.AppendUvarint([]byte{5}, n)
		if got := num.Put([]byte{5}, n); !bytes.Equal(got, want) {
			t.Errorf("Put([5], %d) = %v, want %v", n, got, want)
		}
	}
}

// P1.1, A1: b, and behind it the whole number.
func TestPut32LaysWholeNumbers(t *testing.T) {
	for _, front := range fronts() {
		for _, x := range wholeForms {
			want := slices.Concat(front, x.b)
			if got := num.Put32(front, x.n); !bytes.Equal(got, want) {
				t.Errorf("Put32(%v, %d) = %v, want %v", front, x.n, got, want)
			}
		}
	}
}

// P1.1, A1: b, and behind it how many bytes, and these.
func TestPutStringLaysStrings(t *testing.T) {
	long := bytes.Repeat([]byte("x"), 300)
	for _, front := range fronts() {
		for _, x := range []struct{ s, b []byte }{
			{nil, []byte{0}},
			{[]byte{}, []byte{0}},
			{[]byte("a"), []byte{1, 'a'}},
			{[]byte{0, 255, 128}, []byte{3, 0, 255, 128}},
			{long[:127], slices.Concat([]byte{127}, long[:127])},
			{long[:128], slices.Concat([]byte{128, 1}, long[:128])},
			{long, slices.Concat([]byte{172, 2}, long)},
		} {
			want := slices.Concat(front, x.b)
			if got := num.PutString(front, x.s); !bytes.Equal(got, want) {
				t.Errorf("PutString(%v, %v) = %v, want %v", front, x.s, got, want)
			}
		}
	}
}

// P1.1, A2: the short number, and what is left.
func TestTakeTakesShortNumbers(t *testing.T) {
	for _, x := range shortForms {
		for _, left := range [][]byte{nil, {0}, {1}, {128}, {255, 255, 3}, bytes.Repeat([]byte{128}, 20)} {
			b := slices.Concat(x.b, left)
			n, rest, e := num.Take(b)
			if n != x.n || !bytes.Equal(rest, left) || e != api.OK {
				t.Errorf("Take(%v) = %d, %v, %d, want %d, %v", b, n, rest, e, x.n, left)
			}
		}
	}
}

// wrongShorts are bytes that begin with no short number, and the error that goes ahead.
func wrongShorts() []struct {
	b []byte
	e api.Errno
} {
	ones := bytes.Repeat([]byte{255}, 9)
	noughts := bytes.Repeat([]byte{128}, 9)
	return []struct {
		b []byte
		e api.Errno
	}{
		{nil, api.ErrShort},
		{[]byte{}, api.ErrShort},
		{[]byte{128}, api.ErrShort},
		{[]byte{172}, api.ErrShort},
		{[]byte{255, 255}, api.ErrShort},
		{ones, api.ErrShort},
		{noughts, api.ErrShort},
		{[]byte{128, 0}, api.ErrForm},
		{[]byte{128, 0, 1}, api.ErrForm},
		{[]byte{172, 130, 0}, api.ErrForm},
		{append(bytes.Clone(noughts), 0), api.ErrForm},
		{append(bytes.Clone(ones), 0), api.ErrForm},
		{append(bytes.Clone(noughts), 2), api.ErrForm},
		{append(bytes.Clone(ones), 2), api.ErrForm},
		{append(bytes.Clone(ones), 3), api.ErrForm},
		{append(bytes.Clone(noughts), 127), api.ErrForm},
		{append(bytes.Clone(noughts), 128), api.ErrForm},
		{append(bytes.Clone(noughts), 129), api.ErrForm},
		{append(bytes.Clone(ones), 255), api.ErrForm},
		{append(bytes.Clone(noughts), 128, 0), api.ErrForm},
		{append(bytes.Clone(noughts), 128, 1), api.ErrForm},
		{append(bytes.Clone(noughts), 129, 1, 5), api.ErrForm},
		{bytes.Repeat([]byte{128}, 100), api.ErrForm},
		{bytes.Repeat([]byte{255}, 1000), api.ErrForm},
	}
}

// P1.1, A2: the errors of Take, and nothing beside them.
func TestTakeTellsWrongBytes(t *testing.T) {
	for _, x := range wrongShorts() {
		n, rest, e := num.Take(x.b)
		if n != 0 || len(rest) != 0 || e != x.e {
			t.Errorf("Take(%v) = %d, %v, %d, want the error %d alone", x.b, n, rest, e, x.e)
		}
	}
}

// P1.1, A2: bytes that end at any place within a number.
func TestTakeTellsNumbersCutShort(t *testing.T) {
	for _, x := range shortForms {
		for i := range x.b {
			if n, rest, e := num.Take(x.b[:i]); n != 0 || len(rest) != 0 || e != api.ErrShort {
				t.Errorf("Take(%v) = %d, %v, %d, want ErrShort alone", x.b[:i], n, rest, e)
			}
		}
	}
}

// P1.1, A2: the whole number, and what is left; ErrShort.
func TestTake32(t *testing.T) {
	for _, x := range wholeForms {
		for _, left := range [][]byte{nil, {0}, {200, 1}} {
			b := slices.Concat(x.b, left)
			n, rest, e := num.Take32(b)
			if n != x.n || !bytes.Equal(rest, left) || e != api.OK {
				t.Errorf("Take32(%v) = %d, %v, %d, want %d, %v", b, n, rest, e, x.n, left)
			}
		}
		for i := range x.b {
			if n, rest, e := num.Take32(x.b[:i]); n != 0 || len(rest) != 0 || e != api.ErrShort {
				t.Errorf("Take32(%v) = %d, %v, %d, want ErrShort alone", x.b[:i], n, rest, e)
			}
		}
	}
	if _, _, e := num.Take32(nil); e != api.ErrShort {
		t.Errorf("Take32(nil): %d, want ErrShort", e)
	}
}

// P1.1, A2: the first n bytes, and what is left.
func TestTakeBytes(t *testing.T) {
	b := []byte{5, 0, 128, 255, 7}
	for n := range len(b) + 1 {
		first, rest, e := num.TakeBytes(b, n)
		if !bytes.Equal(first, b[:n]) || !bytes.Equal(rest, b[n:]) || e != api.OK {
			t.Errorf("TakeBytes(%v, %d) = %v, %v, %d", b, n, first, rest, e)
		}
	}
	if first, rest, e := num.TakeBytes(nil, 0); len(first) != 0 || len(rest) != 0 || e != api.OK {
		t.Errorf("TakeBytes(nil, 0) = %v, %v, %d", first, rest, e)
	}
}

// P1.1, A2: the errors of TakeBytes; ErrArg goes ahead, whatever b is.
func TestTakeBytesTellsWrongCounts(t *testing.T) {
	for _, x := range []struct {
		b []byte
		n int
		e api.Errno
	}{
		{nil, -1, api.ErrArg},
		{[]byte{1, 2}, -1, api.ErrArg},
		{[]byte{1, 2}, math.MinInt, api.ErrArg},
		{nil, 1, api.ErrShort},
		{[]byte{1, 2}, 3, api.ErrShort},
		{roomy([]byte{1, 2}), 3, api.ErrShort},
		{[]byte{1, 2}, math.MaxInt, api.ErrShort},
	} {
		first, rest, e := num.TakeBytes(x.b, x.n)
		if len(first) != 0 || len(rest) != 0 || e != x.e {
			t.Errorf("TakeBytes(%v, %d) = %v, %v, %d, want the error %d alone", x.b, x.n, first, rest, e, x.e)
		}
	}
}

// P1.1, A3: the string, and what is left, up to just `most` bytes.
func TestTakeString(t *testing.T) {
	long := bytes.Repeat([]byte("y"), 300)
	for _, s := range [][]byte{nil, {0}, []byte("ab"), long[:127], long[:128], long} {
		for _, left := range [][]byte{nil, {0}, []byte("cd")} {
			for _, most := range []int{len(s), len(s) + 1, 5000, math.MaxInt} {
				b := slices.Concat(num.PutString(nil, s), left)
				got, rest, e := num.TakeString(b, most)
				if !bytes.Equal(got, s) || !bytes.Equal(rest, left) || e != api.OK {
					t.Errorf("TakeString(%v, %d) = %v, %v, %d", b, most, got, rest, e)
				}
			}
		}
	}
}

// P1.1, A3: the errors of TakeString: Take's first, then ErrLarge, then ErrShort.
func TestTakeStringTellsWrongBytes(t *testing.T) {
	huge := []byte{255, 255, 255, 255, 255, 255, 255, 255, 255, 1}
	half := []byte{128, 128, 128, 128, 128, 128, 128, 128, 128, 1}
	type wrong struct {
		b    []byte
		most int
		e    api.Errno
	}
	l := []wrong{
		{[]byte{2, 'a', 'b'}, 1, api.ErrLarge},
		{[]byte{2, 'a', 'b'}, 0, api.ErrLarge},
		{[]byte{2, 'a', 'b'}, -1, api.ErrLarge},
		{[]byte{1, 'a'}, math.MinInt, api.ErrLarge},
		{[]byte{0}, -1, api.ErrLarge},
		{[]byte{0}, math.MinInt, api.ErrLarge},
		{[]byte{2, 'a'}, 1, api.ErrLarge},
		{[]byte{2}, -1, api.ErrLarge},
		{[]byte{2, 'a'}, 2, api.ErrShort},
		{[]byte{2}, 2, api.ErrShort},
		{[]byte{1}, 5, api.ErrShort},
		{roomy([]byte{2, 'a'}), 2, api.ErrShort},
		{huge, math.MaxInt, api.ErrLarge},
		{half, math.MaxInt, api.ErrLarge},
		{huge, -1, api.ErrLarge},
		{num.Put(nil, math.MaxInt), math.MaxInt, api.ErrShort},
	}
	for _, x := range wrongShorts() {
		for _, most := range []int{-1, 0, 12, math.MaxInt} {
			l = append(l, wrong{x.b, most, x.e})
		}
	}
	for _, x := range l {
		s, rest, e := num.TakeString(x.b, x.most)
		if len(s) != 0 || len(rest) != 0 || e != x.e {
			t.Errorf("TakeString(%v, %d) = %v, %v, %d, want the error %d alone", x.b, x.most, s, rest, e, x.e)
		}
	}
}

// P1.2: what is put is taken as it was, and what stood behind it is left.
func TestThereAndBackNumbers(t *testing.T) {
	for _, n := range numbers() {
		b := append(num.Put(nil, n), 128, 0)
		if got, rest, e := num.Take(b); got != n || !bytes.Equal(rest, []byte{128, 0}) || e != api.OK {
			t.Errorf("Take(Put(%d)) = %d, %v, %d", n, got, rest, e)
		}
		w := uint32(n)
		b = append(num.Put32(nil, w), 128, 0)
		if got, rest, e := num.Take32(b); got != w || !bytes.Equal(rest, []byte{128, 0}) || e != api.OK {
			t.Errorf("Take32(Put32(%d)) = %d, %v, %d", w, got, rest, e)
		}
	}
}

// P1.2: strings of many lengths, at the least `most` that lets them through.
func TestThereAndBackStrings(t *testing.T) {
	s := make([]byte, 0, 400)
	for i := range 400 {
		b := append(num.PutString(nil, s), 9)
		if got, rest, e := num.TakeString(b, len(s)); !bytes.Equal(got, s) || !bytes.Equal(rest, []byte{9}) || e != api.OK {
			t.Errorf("TakeString(PutString of %d bytes) = %v, %v, %d", len(s), got, rest, e)
		}
		s = append(s, byte(i*7))
	}
}

// P1.2: many things one behind another are taken in the order in which they were put.
func TestThereAndBackInARow(t *testing.T) {
	var b []byte
	for _, n := range numbers() {
		b = num.PutString(num.Put32(num.Put(b, n), uint32(n>>7)), []byte{byte(n), 128})
	}
	for _, n := range numbers() {
		a, rest, e := num.Take(b)
		w, rest, f := num.Take32(rest)
		s, rest, g := num.TakeString(rest, 2)
		if a != n || w != uint32(n>>7) || !bytes.Equal(s, []byte{byte(n), 128}) || e != api.OK || f != api.OK || g != api.OK {
			t.Fatalf("in a row: %d, %d, %v, %d, %d, %d, want those of %d", a, w, s, e, f, g, n)
		}
		b = rest
	}
	if len(b) != 0 {
		t.Errorf("in a row: %v is left", b)
	}
}

// P1.3: of all bytes that are handed in, what is taken, put again, is the bytes that were taken.
func TestOnlySo(t *testing.T) {
	taken := 0
	eachBytes(func(b []byte) {
		if n, rest, e := num.Take(b); e == api.OK {
			taken++
			if got := append(num.Put(nil, n), rest...); !bytes.Equal(got, b) {
				t.Errorf("Take(%v), put again: %v", b, got)
			}
		}
		if n, rest, e := num.Take32(b); e == api.OK {
			if got := append(num.Put32(nil, n), rest...); !bytes.Equal(got, b) {
				t.Errorf("Take32(%v), put again: %v", b, got)
			}
		}
		if s, rest, e := num.TakeString(b, 12); e == api.OK {
			if got := append(num.PutString(nil, s), rest...); !bytes.Equal(got, b) {
				t.Errorf("TakeString(%v), put again: %v", b, got)
			}
		}
		if s, rest, e := num.TakeBytes(b, 2); e == api.OK {
			if got := slices.Concat(s, rest); !bytes.Equal(got, b) {
				t.Errorf("TakeBytes(%v), put again: %v", b, got)
			}
		}
	})
	if taken < 1000 {
		t.Errorf("only %d were taken: too few to tell", taken)
	}
}

// P1.1 and P1.3: Take knows the same numbers as the library, but for those that have a shorter form.
func TestTakeLikeTheLibrary(t *testing.T) {
	eachBytes(func(b []byte) {
		want, size := binary.Uvarint(b)
		if size > 0 && len(binary.AppendUvarint(nil, want)) != size {
			size = -1
		}
		n, _, e := num.Take(b)
		switch {
		case size > 0:
			if n != want || e != api.OK {
				t.Errorf("Take(%v) = %d, %d, want %d", b, n, e, want)
			}
		case size < 0 || len(b) >= 10:
			if e != api.ErrForm {
				t.Errorf("Take(%v): %d, want ErrForm", b, e)
			}
		case e != api.ErrShort:
			t.Errorf("Take(%v): %d, want ErrShort", b, e)
		}
	})
}

// eachBytes hands out short bytes of all kinds, alone and behind others that do not end a number.
func eachBytes(f func(b []byte)) {
	kinds := []byte{0, 1, 2, 3, 5, 127, 128, 129, 130, 172, 255}
	for _, lead := range []byte{128, 131, 255} {
		for n := range 11 {
			front := bytes.Repeat([]byte{lead}, n)
			f(front)
			for _, x := range kinds {
				f(slices.Concat(front, []byte{x}))
				for _, y := range kinds {
					f(slices.Concat(front, []byte{x, y}))
					for _, z := range kinds {
						f(slices.Concat(front, []byte{x, y, z}))
						f(slices.Concat(front, []byte{x, y, z, 4, 0, 6}))
					}
				}
			}
		}
	}
}

// R4: the calls that put leave what is handed in as it is, and the room behind it, and share none of it.
func TestPutsShareNothing(t *testing.T) {
	for _, front := range fronts() {
		b, s := roomy(front), roomy([]byte("ab"))
		out := map[string][]byte{"Put": num.Put(b, 300), "Put32": num.Put32(b, 7), "PutString": num.PutString(b, s), "PutString of nothing": num.PutString(b, nil)}
		if !bytes.Equal(b, front) || string(s) != "ab" || !roomKept(b) || !roomKept(s) {
			t.Errorf("puts behind %v: what was handed in was changed", front)
		}
		for what, l := range out {
			apart(t, what, l, b, s)
		}
	}
}

// R4: one list handed in as both.
func TestPutStringOfItself(t *testing.T) {
	b := roomy([]byte{1, 2, 3})
	if got := num.PutString(b, b); !bytes.Equal(got, []byte{1, 2, 3, 3, 1, 2, 3}) || !roomKept(b) {
		t.Errorf("PutString(b, b) = %v", got)
	}
	if got := num.PutString(b, b[1:]); !bytes.Equal(got, []byte{1, 2, 3, 2, 2, 3}) || !roomKept(b) {
		t.Errorf("PutString(b, b[1:]) = %v", got)
	}
}

// R4: the calls that take leave what is handed in as it is; no two of their lists and no list and the argument share any.
func TestTakesShareNothing(t *testing.T) {
	full := []byte{3, 1, 2, 3, 4, 5, 6}
	b := roomy(full)
	_, rest, _ := num.Take(b)
	apart(t, "Take", rest, b)
	_, rest, _ = num.Take32(b)
	apart(t, "Take32", rest, b)
	for _, most := range []int{3, 100} {
		s, rest, _ := num.TakeString(b, most)
		apart(t, "TakeString", s, rest, b)
	}
	for n := range len(full) + 1 {
		s, rest, _ := num.TakeBytes(b, n)
		apart(t, "TakeBytes", s, rest, b)
	}
	if !bytes.Equal(b, full) || !roomKept(b) {
		t.Errorf("takes of %v: what was handed in was changed: %v", full, b)
	}
}

// R5: the same call answers the same, and an answer stays when later calls are made.
func TestAnswersStay(t *testing.T) {
	b := num.Put(nil, 300)
	first, _, _ := num.TakeBytes(b, 2)
	num.Put(b, math.MaxUint64)
	num.PutString(b, []byte("zz"))
	again, _, _ := num.TakeBytes(b, 2)
	if !bytes.Equal(first, []byte{172, 2}) || !bytes.Equal(first, again) {
		t.Errorf("answers: %v, then %v", first, again)
	}
}
