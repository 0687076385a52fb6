package space_test

import (
	"bytes"
	"math"
	"math/rand"
	"slices"
	"testing"

	"cautery/api"
	"cautery/space"
)

// size is how many bytes a map has as it is written, by the chapter's words.
const size = 64

// model is a map as the chapter's words tell it: one bool a sector.
type model []bool

// fresh is the model of a new map.
func fresh(n int) model {
	w := make(model, n)
	w[0], w[1], w[2], w[3] = true, true, true, true
	return w
}

// free is how many are not used.
func (w model) free() int {
	n := 0
	for _, u := range w {
		if !u {
			n++
		}
	}
	return n
}

// bytes is the model as it is written.
func (w model) bytes() []byte {
	out := make([]byte, size)
	for i, u := range w {
		if u {
			out[i/8] |= []byte{1, 2, 4, 8, 16, 32, 64, 128}[i%8]
		}
	}
	return out
}

// take is what Take must answer, and takes it.
func (w model) take(k int) ([]uint32, api.Errno) {
	if k < 0 || k > 8 {
		return nil, api.ErrArg
	}
	if w.free() < k {
		return nil, api.ErrFull
	}
	var out []uint32
	for i := range w {
		if len(out) < k && !w[i] {
			w[i] = true
			out = append(out, uint32(i))
		}
	}
	return out, api.OK
}

// give is what Give must answer, and gives it.
func (w model) give(i uint32) api.Errno {
	if i < 4 || int64(i) >= int64(len(w)) || !w[i] {
		return api.ErrArg
	}
	w[i] = false
	return api.OK
}

// keep is what Keep must leave.
func (w model) keep(l []uint32) {
	copy(w, fresh(len(w)))
	for _, i := range l {
		if int64(i) < int64(len(w)) {
			w[i] = true
		}
	}
}

// same holds all that a map tells against the model.
func same(t *testing.T, m *space.Map, w model) {
	t.Helper()
	if m.Len() != len(w) || m.Free() != w.free() {
		t.Fatalf("Len, Free: %d, %d; want %d, %d", m.Len(), m.Free(), len(w), w.free())
	}
	if !bytes.Equal(m.Bytes(), w.bytes()) {
		t.Fatalf("Bytes: %x; want %x", m.Bytes(), w.bytes())
	}
	for i, u := range w {
		if m.Used(i) != u {
			t.Fatalf("Used(%d): %v of %d", i, !u, len(w))
		}
	}
	for _, i := range []int{-1, -4, -64, math.MinInt, len(w), len(w) + 1, 512, 1 << 32, 1<<32 + 4, math.MaxInt} {
		if !m.Used(i) {
			t.Fatalf("Used(%d): false, of %d", i, len(w))
		}
	}
}

// make1 is a new map.
func make1(t *testing.T, n int) *space.Map {
	t.Helper()
	m, e := space.New(n)
	if e != api.OK || m == nil {
		t.Fatalf("New(%d): %d", n, e)
	}
	return m
}

// load1 is a map of bytes that may be.
func load1(t *testing.T, b []byte, n int) *space.Map {
	t.Helper()
	m, e := space.Load(b, n)
	if e != api.OK || m == nil {
		t.Fatalf("Load(%x, %d): %d", b, n, e)
	}
	return m
}

// wrongLengths are how many sectors a map may not have.
func wrongLengths() []int {
	return []int{15, 0, -1, -16, 513, 1024, 1<<32 + 16, math.MaxInt, math.MinInt}
}

// P6.1, F1: a new map of each length has the labels' sectors used, and no other.
func TestNewOfEachLength(t *testing.T) {
	for n := 16; n <= 512; n++ {
		m := make1(t, n)
		same(t, m, fresh(n))
		if m.Free() != n-4 {
			t.Errorf("Free of %d: %d", n, m.Free())
		}
	}
}

// P6.1, F1: New and Load refuse a length that may not be; Load does so ahead of the form (R2).
func TestWrongLengths(t *testing.T) {
	for _, n := range wrongLengths() {
		if m, e := space.New(n); m != nil || e != api.ErrArg {
			t.Errorf("New(%d): %v, %d", n, m, e)
		}
		for _, b := range [][]byte{fresh(16).bytes(), nil, make([]byte, size), make([]byte, size+1)} {
			if m, e := space.Load(b, n); m != nil || e != api.ErrArg {
				t.Errorf("Load(%d bytes, %d): %v, %d", len(b), n, m, e)
			}
		}
	}
}

// P6.1, F1: Load refuses all but 64 bytes.
func TestLoadOfWrongCount(t *testing.T) {
	whole := append(fresh(512).bytes(), 0, 0)
	for _, k := range []int{0, 1, 2, 8, 32, 63, 65, 66} {
		if m, e := space.Load(whole[:k], 512); m != nil || e != api.ErrForm {
			t.Errorf("Load of %d bytes: %v, %d", k, m, e)
		}
	}
	if m, e := space.Load(make([]byte, 1000), 16); m != nil || e != api.ErrForm {
		t.Errorf("Load of 1000 bytes: %v, %d", m, e)
	}
}

// P6.1, F1: each bit of each length alone: a label's may not be 0, one beyond the end may not be 1, all others may be either.
func TestLoadOfEachBit(t *testing.T) {
	for _, n := range []int{16, 17, 20, 23, 24, 63, 64, 65, 127, 128, 129, 300, 448, 449, 511, 512} {
		for i := range 512 {
			b := fresh(n).bytes()
			b[i/8] ^= 1 << (i % 8)
			m, e := space.Load(b, n)
			if i < 4 || i >= n {
				if m != nil || e != api.ErrForm {
					t.Errorf("Load of %d with the bit %d: %v, %d", n, i, m, e)
				}
				continue
			}
			if e != api.OK {
				t.Fatalf("Load of %d with the bit %d: %d", n, i, e)
			}
			w := fresh(n)
			w[i] = true
			same(t, m, w)
		}
	}
}

// P6.1, F1: the bytes of a map, by hand: the lowest bit is the sector 0.
func TestBytesByHand(t *testing.T) {
	m := make1(t, 512)
	m.Keep([]uint32{4, 7, 8, 15, 64, 127, 510, 511})
	want := make([]byte, size)
	want[0], want[1], want[8], want[15], want[63] = 0x9f, 0x81, 0x01, 0x80, 0xc0
	if !bytes.Equal(m.Bytes(), want) {
		t.Errorf("Bytes: %x; want %x", m.Bytes(), want)
	}
}

// P6.1, F2, example 1: Take tells the lowest sectors, in order, and they are used from then on.
func TestTakeTheLowest(t *testing.T) {
	m := make1(t, 16)
	for _, x := range []struct {
		k    int
		want []uint32
		e    api.Errno
		free int
	}{
		{2, []uint32{4, 5}, api.OK, 10},
		{0, nil, api.OK, 10},
		{1, []uint32{6}, api.OK, 9},
		{9, nil, api.ErrArg, 9},
		{8, []uint32{7, 8, 9, 10, 11, 12, 13, 14}, api.OK, 1},
		{2, nil, api.ErrFull, 1},
		{8, nil, api.ErrFull, 1},
		{1, []uint32{15}, api.OK, 0},
		{1, nil, api.ErrFull, 0},
		{0, nil, api.OK, 0},
	} {
		l, e := m.Take(x.k)
		if !slices.Equal(l, x.want) || e != x.e || m.Free() != x.free {
			t.Errorf("Take(%d): %v, %d, free %d; want %v, %d, free %d", x.k, l, e, m.Free(), x.want, x.e, x.free)
		}
	}
	same(t, m, model(slices.Repeat([]bool{true}, 16)))
}

// P6.1, F2: Take passes over what is used, also from one word to the next and at the last sector of a full map.
func TestTakeAcrossWords(t *testing.T) {
	w := model(slices.Repeat([]bool{true}, 512))
	for _, i := range []int{62, 63, 64, 66, 127, 128, 511} {
		w[i] = false
	}
	m := load1(t, w.bytes(), 512)
	l, e := m.Take(6)
	if !slices.Equal(l, []uint32{62, 63, 64, 66, 127, 128}) || e != api.OK {
		t.Errorf("Take: %v, %d", l, e)
	}
	l, e = m.Take(1)
	if !slices.Equal(l, []uint32{511}) || e != api.OK || m.Free() != 0 {
		t.Errorf("Take: %v, %d", l, e)
	}
}

// P6.1, F2, R2, R3: a Take that may not be is ErrArg, ahead of ErrFull, and changes nothing.
func TestTakeOfWrongCount(t *testing.T) {
	for _, full := range []bool{false, true} {
		m, w := make1(t, 20), fresh(20)
		for full && w.free() > 0 {
			m.Take(1)
			w.take(1)
		}
		for _, k := range []int{-1, -8, 9, 16, 17, 1 << 32, 1<<32 + 1, math.MaxInt, math.MinInt} {
			if l, e := m.Take(k); len(l) != 0 || e != api.ErrArg {
				t.Errorf("Take(%d): %v, %d", k, l, e)
			}
			same(t, m, w)
		}
	}
}

// P6.1, F2: a Take that is too great changes nothing, though some are free.
func TestTakeOfTooMany(t *testing.T) {
	for left := range 8 {
		w := model(slices.Repeat([]bool{true}, 100))
		for i := range left {
			w[10+7*i] = false
		}
		m := load1(t, w.bytes(), 100)
		for k := left + 1; k <= 8; k++ {
			if l, e := m.Take(k); len(l) != 0 || e != api.ErrFull {
				t.Errorf("Take(%d) of %d: %v, %d", k, left, l, e)
			}
			same(t, m, w)
		}
		want, _ := w.take(left)
		if l, e := m.Take(left); !slices.Equal(l, want) || e != api.OK {
			t.Errorf("Take(%d): %v, %d", left, l, e)
		}
		same(t, m, w)
	}
}

// P6.1, F2: Give of each sector of a full map: the labels' and those that are not there are refused, the others once.
func TestGiveEach(t *testing.T) {
	for _, n := range []int{16, 64, 65, 300, 512} {
		w := model(slices.Repeat([]bool{true}, n))
		m := load1(t, w.bytes(), n)
		var l []uint32
		for i := range uint32(600) {
			l = append(l, i)
		}
		l = append(l, 1<<31, 1<<31+5, 1<<16, 1<<16+5, math.MaxUint32, math.MaxUint32-506)
		for _, i := range l {
			for range 2 {
				want := w.give(i)
				if e := m.Give(i); e != want {
					t.Fatalf("Give(%d) of %d: %d; want %d", i, n, e, want)
				}
			}
		}
		same(t, m, w)
	}
}

// P6.1, F2: what is given is the first to be taken again.
func TestGiveThenTake(t *testing.T) {
	m := make1(t, 20)
	m.Take(8)
	if e := m.Give(9); e != api.OK {
		t.Fatalf("Give: %d", e)
	}
	if e := m.Give(6); e != api.OK {
		t.Fatalf("Give: %d", e)
	}
	if l, e := m.Take(3); !slices.Equal(l, []uint32{6, 9, 12}) || e != api.OK {
		t.Errorf("Take: %v, %d", l, e)
	}
}

// P6.1, F2: Keep leaves the labels' sectors and those of l that there are, whatever was used before, in any order, also twice.
func TestKeep(t *testing.T) {
	for _, l := range [][]uint32{
		nil, {}, {4}, {0}, {3, 2, 1, 0}, {15}, {16}, {99}, {100}, {101}, {64, 63, 63, 64, 4},
		{512, 511, 513}, {math.MaxUint32, 1 << 31, 1<<31 + 5, 1 << 16, 256 + 5, 50}, {7, 300, 8, 100, 99},
	} {
		m, w := make1(t, 100), fresh(100)
		for range 10 {
			m.Take(8)
		}
		m.Keep(l)
		w.keep(l)
		same(t, m, w)
		m.Keep(l)
		same(t, m, w)
	}
}

// P6.1, F2: a copy is alike, and what is done to one of the two is not done to the other.
func TestCopyIsApart(t *testing.T) {
	for _, n := range []int{16, 100, 512} {
		m, w := make1(t, n), fresh(n)
		m.Take(5)
		w.take(5)
		c := m.Copy()
		if c == nil || c == m {
			t.Fatal("Copy: the map itself")
		}
		same(t, c, w)
		m.Give(5)
		m.Take(3)
		same(t, c, w)
		v := slices.Clone(w)
		c.Keep([]uint32{9})
		v.give(5)
		v.take(3)
		same(t, m, v)
	}
}

// P6.2: a map that was written is loaded as it was.
func TestThereAndBack(t *testing.T) {
	r := rand.New(rand.NewSource(6))
	for range 300 {
		n := 16 + r.Intn(497)
		w := fresh(n)
		for i := 4; i < n; i++ {
			w[i] = r.Intn(2) == 1
		}
		m := load1(t, w.bytes(), n)
		same(t, m, w)
		same(t, load1(t, m.Bytes(), n), w)
	}
}

// P6.2: what Load takes is written again byte by byte the same; so no map has two forms.
func TestOnlySo(t *testing.T) {
	r := rand.New(rand.NewSource(62))
	taken := 0
	for range 3000 {
		n := 16 + r.Intn(497)
		b := fresh(n).bytes()
		for range r.Intn(3) {
			b[r.Intn(size)] ^= 1 << r.Intn(8)
		}
		m, e := space.Load(b, n)
		if e != api.OK {
			if m != nil || e != api.ErrForm {
				t.Fatalf("Load: %v, %d", m, e)
			}
			continue
		}
		taken++
		if !bytes.Equal(m.Bytes(), b) || m.Len() != n {
			t.Fatalf("Load of %x is written %x", b, m.Bytes())
		}
	}
	if taken < 500 || taken > 2900 {
		t.Errorf("taken: %d of 3000", taken)
	}
}

// P6.2: a map that is loaded for another length tells so, where a sector is used beyond it.
func TestLoadOfAnotherLength(t *testing.T) {
	m := make1(t, 100)
	m.Keep([]uint32{70})
	for n := 16; n <= 512; n++ {
		l, e := space.Load(m.Bytes(), n)
		if n <= 70 && (l != nil || e != api.ErrForm) || n > 70 && (e != api.OK || l.Len() != n) {
			t.Errorf("Load for %d: %d", n, e)
		}
	}
}

// P6.1, R5: many calls in any order are as the model says, on the map, its copy and the one that is loaded of its bytes.
func TestManyCalls(t *testing.T) {
	r := rand.New(rand.NewSource(66))
	for range 60 {
		n := []int{16, 17, 40, 64, 65, 128, 200, 511, 512}[r.Intn(9)]
		m, w := make1(t, n), fresh(n)
		for range 200 {
			step(t, r, m, w)
			switch r.Intn(12) {
			case 0:
				m = m.Copy()
			case 1:
				m = load1(t, m.Bytes(), n)
			}
		}
		same(t, m, w)
	}
}

// step does one call on the map and on the model.
func step(t *testing.T, r *rand.Rand, m *space.Map, w model) {
	t.Helper()
	switch r.Intn(10) {
	case 0, 1, 2, 3, 4:
		k := r.Intn(12) - 1
		want, we := w.take(k)
		if l, e := m.Take(k); !slices.Equal(l, want) || e != we {
			t.Fatalf("Take(%d): %v, %d; want %v, %d", k, l, e, want, we)
		}
	case 5, 6, 7, 8:
		i := uint32(r.Intn(len(w) + 5))
		want := w.give(i)
		if e := m.Give(i); e != want {
			t.Fatalf("Give(%d): %d; want %d", i, e, want)
		}
	case 9:
		l := make([]uint32, r.Intn(40))
		for i := range l {
			l[i] = uint32(r.Intn(len(w) + 20))
		}
		m.Keep(l)
		w.keep(l)
	}
	if m.Free() != w.free() {
		t.Fatalf("Free: %d; want %d", m.Free(), w.free())
	}
}

// R4: what is handed in is not changed, nor the room behind its end, and not kept.
func TestArgumentsStay(t *testing.T) {
	room := append(fresh(100).bytes(), 7, 7, 7)
	was := slices.Clone(room)
	m := load1(t, room[:size], 100)
	m.Take(8)
	m.Keep(nil)
	if !bytes.Equal(room, was) {
		t.Errorf("Load: %x", room)
	}
	clear(room)
	same(t, m, fresh(100))

	l := []uint32{50, 300, 2, 50, 9, 9}
	old := slices.Clone(l)
	m.Keep(l[:3])
	if !slices.Equal(l, old) {
		t.Errorf("Keep: %v", l)
	}
	w := fresh(100)
	w.keep(old[:3])
	clear(l)
	m.Take(4)
	w.take(4)
	same(t, m, w)
}

// R4: an answer and its spare room are new memory: what is written there is told by nobody.
func TestAnswersAreApart(t *testing.T) {
	m, w := make1(t, 100), fresh(100)
	b := m.Bytes()
	b = b[:cap(b)]
	for i := range b {
		b[i] = 255
	}
	same(t, m, w)
	one, _ := m.Take(3)
	w.take(3)
	one = one[:cap(one)]
	for i := range one {
		one[i] = 99
	}
	two, _ := m.Take(3)
	w.take(3)
	if !slices.Equal(two, []uint32{7, 8, 9}) {
		t.Errorf("Take: %v", two)
	}
	same(t, m, w)
	two = append(two, 1)
	m.Take(2)
	if !slices.Equal(two, []uint32{7, 8, 9, 1}) {
		t.Errorf("Take: %v", two)
	}
}

// F2, R1: calls on a nil map.
func TestNilMap(t *testing.T) {
	var m *space.Map
	if m.Bytes() != nil || m.Len() != 0 || m.Free() != 0 || m.Copy() != nil {
		t.Error("a nil map tells something")
	}
	for _, i := range []int{-1, 0, 3, 4, 16, 511, 512} {
		if !m.Used(i) {
			t.Errorf("Used(%d): false", i)
		}
	}
	for _, k := range []int{-1, 0, 1, 8, 9} {
		if l, e := m.Take(k); len(l) != 0 || e != api.ErrArg {
			t.Errorf("Take(%d): %v, %d", k, l, e)
		}
	}
	for _, i := range []uint32{0, 4, 16, math.MaxUint32} {
		if e := m.Give(i); e != api.ErrArg {
			t.Errorf("Give(%d): %d", i, e)
		}
	}
	m.Keep(nil)
	m.Keep([]uint32{4, 5})
}

// R1: a map that nobody made has no sectors, and no call on it panics.
func TestZeroMap(t *testing.T) {
	m := &space.Map{}
	m.Keep([]uint32{0, 1, 4, 5, 600})
	if m.Len() != 0 || m.Free() != 0 || !m.Used(0) || !m.Used(4) || !bytes.Equal(m.Bytes(), make([]byte, size)) {
		t.Errorf("a map without sectors: %d, %d, %x", m.Len(), m.Free(), m.Bytes())
	}
	if l, e := m.Take(1); len(l) != 0 || e != api.ErrFull {
		t.Errorf("Take: %v, %d", l, e)
	}
	if l, e := m.Take(0); len(l) != 0 || e != api.OK {
		t.Errorf("Take: %v, %d", l, e)
	}
	if m.Give(0) != api.ErrArg || m.Give(4) != api.ErrArg || m.Copy().Len() != 0 {
		t.Error("Give, Copy of a map without sectors")
	}
}
