package catalog_test

import (
	"bytes"
	"encoding/binary"
	"math"
	"math/rand"
	"slices"
	"strconv"
	"strings"
	"testing"

	"cautery/api"
	"cautery/catalog"
)

// longest is how many bytes a state has at most, worked out by hand: 4 + 1 + 6*698 + 1 + 64*50 + 4 + 44.
const longest = 7442

// ptr is a pointer, apart from others by n.
func ptr(n byte) api.Ptr {
	return api.Ptr{Hash: [32]byte{n, 31: n}, Birth: uint32(n) << 8, At: [2]uint32{uint32(n) + 1<<16, uint32(n) + 1<<24}}
}

// plain is a state that may be, in which each part is apart from the others.
func plain() api.State {
	return api.State{
		Next: 0x04030201,
		Sets: []api.Set{
			{ID: 9, Name: "a", Head: ptr(1), Snaps: []api.Snap{
				{Name: "s", Txg: 5, Root: ptr(2), List: ptr(3), Held: true},
				{Name: "t", Txg: 300, Root: ptr(4), List: ptr(5), Bad: true},
				{Name: "u-0", Txg: 0x08070605, Root: ptr(6), List: ptr(7), Held: true, Bad: true},
			}},
			{ID: 3, Name: "b", Snaps: []api.Snap{{Name: "s", Root: ptr(8)}}},
			{ID: 0x04030200, Name: "abcdefghijkl", Head: api.Ptr{Hash: [32]byte{1}}},
		},
		Losses: []api.Loss{
			{Set: 9, Snap: "s", Cell: 15, Hash: [32]byte{9, 31: 8}},
			{Set: 0x0c0b0a09, Snap: "zz", Cell: 0, Hash: [32]byte{7}},
		},
		Cursor: 0x100f0e0d,
		Inbox:  ptr(9),
	}
}

// full is a state that has as much of all as may be.
func full() api.State {
	s := api.State{Next: math.MaxUint32, Cursor: math.MaxUint32, Inbox: ptr(255)}
	for i := range 6 {
		t := api.Set{ID: math.MaxUint32 - 1 - uint32(i), Name: "dataset-000" + strconv.Itoa(i), Head: ptr(byte(i))}
		for j := range 6 {
			t.Snaps = append(t.Snaps, api.Snap{Name: "snapshot-00" + strconv.Itoa(j), Txg: math.MaxUint32 - 5 + uint32(j), Root: ptr(byte(i + j)), List: ptr(byte(i * j)), Held: true, Bad: true})
		}
		s.Sets = append(s.Sets, t)
	}
	for i := range 64 {
		s.Losses = append(s.Losses, api.Loss{Set: math.MaxUint32, Snap: "zzzzzzzzzzzz", Cell: i % 16, Hash: [32]byte{byte(i)}})
	}
	return s
}

// laidPtr is a pointer as it is written, by the library.
func laidPtr(p api.Ptr) []byte {
	b := bytes.Clone(p.Hash[:])
	for _, n := range []uint32{p.Birth, p.At[0], p.At[1]} {
		b = binary.LittleEndian.AppendUint32(b, n)
	}
	return b
}

// laidText is a string as it is written, by the library.
func laidText(s string) []byte {
	return append(binary.AppendUvarint(nil, uint64(len(s))), s...)
}

// laid is a state as it is written, by the library and the chapter's words; also one that may not be.
func laid(s api.State) []byte {
	b := binary.LittleEndian.AppendUint32(nil, s.Next)
	b = binary.AppendUvarint(b, uint64(len(s.Sets)))
	for _, t := range s.Sets {
		b = binary.LittleEndian.AppendUint32(b, t.ID)
		b = append(b, laidText(t.Name)...)
		b = append(b, laidPtr(t.Head)...)
		b = binary.AppendUvarint(b, uint64(len(t.Snaps)))
		for _, n := range t.Snaps {
			b = append(b, laidText(n.Name)...)
			b = binary.LittleEndian.AppendUint32(b, n.Txg)
			b = append(b, laidPtr(n.Root)...)
			b = append(b, laidPtr(n.List)...)
			switch {
			case n.Held && n.Bad:
				b = append(b, 3)
			case n.Bad:
				b = append(b, 2)
			case n.Held:
				b = append(b, 1)
			default:
				b = append(b, 0)
			}
		}
	}
	b = binary.AppendUvarint(b, uint64(len(s.Losses)))
	for _, l := range s.Losses {
		b = binary.LittleEndian.AppendUint32(b, l.Set)
		b = append(b, laidText(l.Snap)...)
		b = binary.AppendUvarint(b, uint64(l.Cell))
		b = append(b, l.Hash[:]...)
	}
	b = binary.LittleEndian.AppendUint32(b, s.Cursor)
	return append(b, laidPtr(s.Inbox)...)
}

// twin is another state, alike, that shares no lists; made without Copy.
func twin(s api.State) api.State {
	out := s
	out.Sets, out.Losses = nil, append([]api.Loss(nil), s.Losses...)
	for _, t := range s.Sets {
		t.Snaps = append([]api.Snap(nil), t.Snaps...)
		out.Sets = append(out.Sets, t)
	}
	return out
}

// none tells whether a state is all zero.
func none(s api.State) bool {
	return s.Next == 0 && len(s.Sets) == 0 && len(s.Losses) == 0 && s.Cursor == 0 && s.Inbox == (api.Ptr{})
}

// goes holds a state that may be against all that the chapter says of it.
func goes(t *testing.T, what string, s api.State) {
	t.Helper()
	if !catalog.May(s) {
		t.Errorf("%s: it may not be", what)
	}
	b, e := catalog.Encode(s)
	if e != api.OK || !bytes.Equal(b, laid(s)) {
		t.Errorf("Encode, %s: %d, or other bytes", what, e)
	}
	back, e := catalog.Decode(laid(s))
	if e != api.OK || !catalog.Same(back, s) || !bytes.Equal(laid(back), laid(s)) {
		t.Errorf("Decode, %s: %d, or another state", what, e)
	}
}

// fails holds a state that may not be against all that the chapter says of it.
func fails(t *testing.T, what string, s api.State) {
	t.Helper()
	if catalog.May(s) {
		t.Errorf("%s: it may be", what)
	}
	if b, e := catalog.Encode(s); e != api.ErrArg || len(b) != 0 {
		t.Errorf("Encode, %s: %d and %d bytes, want ErrArg alone", what, e, len(b))
	}
	refused(t, what, laid(s))
}

// refused holds a Decode against ErrForm alone.
func refused(t *testing.T, what string, b []byte) {
	t.Helper()
	if s, e := catalog.Decode(b); e != api.ErrForm || !none(s) {
		t.Errorf("Decode, %s: %d, want ErrForm alone", what, e)
	}
}

// bend is a change of a state, and what it is.
type bend struct {
	what string
	do   func(s *api.State)
}

// P12.1, L1: a name has 1 to 12 of its bytes, whatever they are.
func TestIsNameByLength(t *testing.T) {
	for _, c := range []string{"a", "z", "0", "9", "-"} {
		for n := range 40 {
			if got := catalog.IsName(strings.Repeat(c, n)); got != (1 <= n && n <= 12) {
				t.Errorf("IsName of %d times %q: %v", n, c, got)
			}
		}
	}
	for _, s := range []string{"a", "-", "0", "a-1", "-a-", "--", "00", "0a", "a0", "abcdefghijkl", "mnopqrstuvwx", "yz0123456789"} {
		if !catalog.IsName(s) {
			t.Errorf("%q is no name", s)
		}
	}
	if catalog.IsName(strings.Repeat("a", 1<<20)) {
		t.Error("a long name")
	}
}

// P12.1, L1: each byte at each place of a name.
func TestIsNameByBytes(t *testing.T) {
	for c := range 256 {
		want := strings.IndexByte("abcdefghijklmnopqrstuvwxyz0123456789-", byte(c)) >= 0
		for n := 1; n <= 12; n++ {
			for i := range n {
				b := bytes.Repeat([]byte{'m'}, n)
				b[i] = byte(c)
				if got := catalog.IsName(string(b)); got != want {
					t.Errorf("IsName(%q): %v", b, got)
				}
			}
		}
	}
}

// P12.1, L1: runes of more bytes, also those that look like a name's, or end with its bytes.
func TestIsNameByRunes(t *testing.T) {
	for _, r := range []rune{0x80, 0xe9, 0x131, 0x17f, 0x161, 0x410, 0x430, 0x660, 0x2010, 0x2212, 0x212a, 0xff41, 0xff10, 0xfffd, 0xff0d, 0x10061, 0x1d41a, 0x10ffff} {
		for _, s := range []string{string(r), "a" + string(r), string(r) + "a", "ab" + string(r) + "c"} {
			if catalog.IsName(s) {
				t.Errorf("IsName(%q)", s)
			}
		}
	}
	for _, s := range []string{"a b", "a.b", "a_b", "a/b", "a@b", "A", "aB", " a", "a ", "a\n", "\x00", "a\x00", "\xff", "a\xc3", "\xe2\x82", "a\xed\xa0\x80"} {
		if catalog.IsName(s) {
			t.Errorf("IsName(%q)", s)
		}
	}
}

// P12.1, L1, example 1: the state of noughts is 4 noughts, 2 more, 4 more, and 44 more.
func TestNoughts(t *testing.T) {
	b, e := catalog.Encode(api.State{})
	if e != api.OK || !bytes.Equal(b, make([]byte, 54)) {
		t.Errorf("Encode of noughts: %v, %d", b, e)
	}
	s, e := catalog.Decode(make([]byte, 54))
	if e != api.OK || !none(s) || !catalog.Same(s, api.State{}) {
		t.Errorf("Decode of 54 noughts: %v, %d", s, e)
	}
	for n := range 200 {
		if n != 54 {
			refused(t, "noughts", make([]byte, n))
		}
	}
	goes(t, "lists that are empty, not nil", api.State{Next: 1, Sets: []api.Set{{Name: "a", Snaps: []api.Snap{}}}, Losses: []api.Loss{}})
}

// P12.1, L1: the bytes of a small state, one by one, without the library.
func TestBytesByHand(t *testing.T) {
	s := api.State{
		Next:   0x04030201,
		Sets:   []api.Set{{ID: 0x00030201, Name: "a-b", Head: api.Ptr{Birth: 0x11, At: [2]uint32{0x12, 0x13}}, Snaps: []api.Snap{{Name: "s", Txg: 0x0201, Root: api.Ptr{Birth: 0x21}, List: api.Ptr{At: [2]uint32{0x31, 0}}, Held: true, Bad: true}}}},
		Losses: []api.Loss{{Set: 0x0605, Snap: "xy", Cell: 14, Hash: [32]byte{0x41, 31: 0x42}}},
		Cursor: 0x0807,
		Inbox:  api.Ptr{Hash: [32]byte{0x51}, Birth: 0x52},
	}
	zeros := func(n int) []byte { return make([]byte, n) }
	want := slices.Concat(
		[]byte{1, 2, 3, 4, 1}, []byte{1, 2, 3, 0, 3, 'a', '-', 'b'}, zeros(32), []byte{0x11, 0, 0, 0, 0x12, 0, 0, 0, 0x13, 0, 0, 0, 1},
		[]byte{1, 's', 1, 2, 0, 0}, zeros(32), []byte{0x21, 0, 0, 0}, zeros(8), zeros(36), []byte{0x31, 0, 0, 0, 0, 0, 0, 0, 3},
		[]byte{1, 5, 6, 0, 0, 2, 'x', 'y', 14, 0x41}, zeros(30), []byte{0x42},
		[]byte{7, 8, 0, 0, 0x51}, zeros(31), []byte{0x52, 0, 0, 0}, zeros(8))
	if b, e := catalog.Encode(s); e != api.OK || !bytes.Equal(b, want) {
		t.Errorf("Encode: %d, %v\nwant %v", e, b, want)
	}
	if back, e := catalog.Decode(want); e != api.OK || !catalog.Same(back, s) {
		t.Errorf("Decode: %d, %v", e, back)
	}
	goes(t, "by hand", s)
}

// P12.1, P12.2: what may be, at the edges of the chapter's words.
func TestMayAtEdges(t *testing.T) {
	goes(t, "plain", plain())
	goes(t, "full", full())
	if n := len(laid(full())); n != longest {
		t.Errorf("the longest state has %d bytes", n)
	}
	for _, x := range []bend{
		{"a next number alone", func(s *api.State) { *s = api.State{Next: math.MaxUint32} }},
		{"a cursor alone", func(s *api.State) { *s = api.State{Cursor: math.MaxUint32} }},
		{"an inbox alone", func(s *api.State) { *s = api.State{Inbox: ptr(1)} }},
		{"a loss without a dataset", func(s *api.State) { s.Sets = nil }},
		{"the ID 0", func(s *api.State) { s.Sets[0].ID = 0 }},
		{"the ID just below Next", func(s *api.State) { s.Next = 10; s.Sets = s.Sets[:1] }},
		{"IDs upwards", func(s *api.State) { s.Sets[0].ID, s.Sets[1].ID = 1, 2 }},
		{"IDs unlike by their top bytes", func(s *api.State) { s.Sets[1].ID = 9 + 1<<24 }},
		{"the first number 0", func(s *api.State) { s.Sets[0].Snaps[0].Txg = 0 }},
		{"numbers one behind the other", func(s *api.State) { s.Sets[0].Snaps[1].Txg = 6 }},
		{"the last number", func(s *api.State) { s.Sets[0].Snaps[2].Txg = math.MaxUint32 }},
		{"a number that is above the state's own", func(s *api.State) { s.Next = 0x04030201; s.Sets[1].Snaps[0].Txg = math.MaxUint32 }},
		{"snapshots of one name in two datasets", func(s *api.State) { s.Sets[1].Snaps[0].Name = "t" }},
		{"snapshots of one number in two datasets", func(s *api.State) { s.Sets[1].Snaps[0].Txg = 5 }},
		{"a snapshot named as its dataset", func(s *api.State) { s.Sets[0].Snaps[0].Name = "a" }},
		{"the same loss twice", func(s *api.State) { s.Losses[1] = s.Losses[0] }},
		{"a loss of the dataset 0", func(s *api.State) { s.Losses[0].Set = 0 }},
		{"pointers to the same place", func(s *api.State) { s.Sets[0].Head, s.Inbox = ptr(3), ptr(3) }},
		{"an absent inbox", func(s *api.State) { s.Inbox = api.Ptr{Hash: [32]byte{4}} }},
		{"one copy alone", func(s *api.State) { s.Inbox = api.Ptr{At: [2]uint32{math.MaxUint32, 0}} }},
	} {
		s := plain()
		x.do(&s)
		goes(t, x.what, s)
	}
	for cell := range 16 {
		s := plain()
		s.Losses[1].Cell = cell
		goes(t, "a cell", s)
	}
}

// P12.1, P12.2: what may not be, by lists, numbers and names, each beside a state that may be.
func TestMayNot(t *testing.T) {
	for _, x := range []bend{
		{"a seventh dataset", func(s *api.State) {
			*s = full()
			s.Sets[0].ID = 7
			s.Sets = append(s.Sets, api.Set{ID: 1, Name: "more"})
		}},
		{"a seventh snapshot", func(s *api.State) {
			*s = full()
			s.Sets[5].Snaps[0].Txg = 1
			s.Sets[5].Snaps = append([]api.Snap{{Name: "more"}}, s.Sets[5].Snaps...)
		}},
		{"a loss too many", func(s *api.State) { s.Losses = append(full().Losses, s.Losses[0]) }},
		{"no next number", func(s *api.State) { s.Next = 0 }},
		{"the ID is Next", func(s *api.State) { s.Next = 0x04030200 }},
		{"an ID above Next", func(s *api.State) { s.Sets[1].ID = math.MaxUint32 }},
		{"the ID 0 of no next number", func(s *api.State) { *s = api.State{Sets: []api.Set{{Name: "a"}}} }},
		{"the same IDs", func(s *api.State) { s.Sets[2].ID = 9 }},
		{"the same IDs, side by side", func(s *api.State) { s.Sets[1].ID = 9 }},
		{"the same names", func(s *api.State) { s.Sets[2].Name = "a" }},
		{"the same long names", func(s *api.State) { s.Sets[0].Name = "abcdefghijkl" }},
		{"snapshots of one name", func(s *api.State) { s.Sets[0].Snaps[2].Name = "s" }},
		{"snapshots of one name, side by side", func(s *api.State) { s.Sets[0].Snaps[1].Name = "s" }},
		{"snapshots of one number", func(s *api.State) { s.Sets[0].Snaps[1].Txg = 5 }},
		{"snapshots of the number 0", func(s *api.State) { s.Sets[0].Snaps[0].Txg, s.Sets[0].Snaps[1].Txg = 0, 0 }},
		{"numbers downwards", func(s *api.State) { s.Sets[0].Snaps[2].Txg = 299 }},
		{"the last number above the first alone", func(s *api.State) { s.Sets[0].Snaps[2].Txg = 6 }},
		{"a cell below 0", func(s *api.State) { s.Losses[0].Cell = -1 }},
		{"the cell 16", func(s *api.State) { s.Losses[1].Cell = 16 }},
		{"a cell far above", func(s *api.State) { s.Losses[1].Cell = math.MaxInt }},
		{"a cell far below", func(s *api.State) { s.Losses[1].Cell = math.MinInt }},
		{"a cell that is 0 in 8 bits", func(s *api.State) { s.Losses[1].Cell = 256 }},
		{"a cell that is 0 in 32 bits", func(s *api.State) { s.Losses[1].Cell = 1 << 32 }},
	} {
		s := plain()
		x.do(&s)
		fails(t, x.what, s)
	}
	for _, name := range []string{"", "A", "a b", "a.", "abcdefghijklm", "é", "\xff", strings.Repeat("a", 300)} {
		for i, do := range []func(s *api.State){
			func(s *api.State) { s.Sets[0].Name = name }, func(s *api.State) { s.Sets[2].Name = name },
			func(s *api.State) { s.Sets[0].Snaps[0].Name = name }, func(s *api.State) { s.Sets[1].Snaps[0].Name = name },
			func(s *api.State) { s.Losses[0].Snap = name }, func(s *api.State) { s.Losses[1].Snap = name },
		} {
			s := plain()
			do(&s)
			fails(t, "the name "+name+" at "+strconv.Itoa(i), s)
		}
	}
}

// P12.1, P12.2: pointers that may not be, at each place where one stands; and all kinds of those that may.
func TestPointers(t *testing.T) {
	places := []func(s *api.State) *api.Ptr{
		func(s *api.State) *api.Ptr { return &s.Inbox },
		func(s *api.State) *api.Ptr { return &s.Sets[0].Head },
		func(s *api.State) *api.Ptr { return &s.Sets[2].Head },
		func(s *api.State) *api.Ptr { return &s.Sets[0].Snaps[0].Root },
		func(s *api.State) *api.Ptr { return &s.Sets[0].Snaps[2].Root },
		func(s *api.State) *api.Ptr { return &s.Sets[0].Snaps[0].List },
		func(s *api.State) *api.Ptr { return &s.Sets[1].Snaps[0].List },
	}
	for _, at := range places {
		for _, p := range []api.Ptr{{At: [2]uint32{0, 1}}, {At: [2]uint32{7, 7}}, {Hash: [32]byte{1}, Birth: 2, At: [2]uint32{0, math.MaxUint32}}, {At: [2]uint32{math.MaxUint32, math.MaxUint32}}} {
			s := plain()
			*at(&s) = p
			fails(t, "a pointer that may not be", s)
		}
		for _, p := range []api.Ptr{{}, {Birth: 1}, {Hash: [32]byte{31: 1}}, {At: [2]uint32{1, 0}}, {At: [2]uint32{1, 2}}, {At: [2]uint32{2, 1}}, ptr(77)} {
			s := plain()
			*at(&s) = p
			goes(t, "a pointer that may be", s)
		}
	}
}

// P12.1, L1, R1: lists and names far beyond what may be.
func TestMayNotOfVeryMuch(t *testing.T) {
	many := api.State{Next: math.MaxUint32, Sets: make([]api.Set, 1<<20)}
	for i := range many.Sets {
		many.Sets[i] = api.Set{ID: uint32(i), Name: strconv.Itoa(i)}
	}
	fails(t, "many datasets", many)
	snaps := api.State{Next: 1, Sets: []api.Set{{Name: "a", Snaps: make([]api.Snap, 1<<18)}}}
	for i := range snaps.Sets[0].Snaps {
		snaps.Sets[0].Snaps[i] = api.Snap{Name: strconv.Itoa(i), Txg: uint32(i)}
	}
	fails(t, "many snapshots", snaps)
	losses := api.State{Losses: make([]api.Loss, 1<<18)}
	for i := range losses.Losses {
		losses.Losses[i].Snap = "s"
	}
	fails(t, "many losses", losses)
	fails(t, "a long name", api.State{Next: 1, Sets: []api.Set{{Name: strings.Repeat("a", 1<<22)}}})
}

// P12.1, L1: ErrForm of a beginning, and of more behind the end.
func TestDecodeOfOtherLengths(t *testing.T) {
	for _, s := range []api.State{plain(), full()} {
		b := laid(s)
		for n := range b {
			refused(t, "a beginning of "+strconv.Itoa(n), b[:n])
		}
		for _, more := range []int{1, 2, 44, 54, 10000, 1 << 20} {
			refused(t, "noughts behind", append(bytes.Clone(b), make([]byte, more)...))
			refused(t, "bytes behind", append(bytes.Clone(b), bytes.Repeat([]byte{255}, more)...))
		}
		refused(t, "twice", append(bytes.Clone(b), b...))
		refused(t, "behind a byte", append([]byte{0}, b...))
		refused(t, "without its first byte", b[1:])
	}
	refused(t, "nil", nil)
	refused(t, "empty", []byte{})
	for _, c := range []byte{1, 6, 64, 127, 128, 129, 255} {
		for _, n := range []int{1, 4, 5, 54, 100, 1000, longest, longest + 1, 1 << 16} {
			refused(t, "one byte again and again", bytes.Repeat([]byte{c}, n))
		}
	}
}

// P12.1, L1: the snapshot's byte is 0 to 3.
func TestMarks(t *testing.T) {
	s := api.State{Next: 1, Sets: []api.Set{{Name: "a", Snaps: []api.Snap{{Name: "s"}}}}}
	b := laid(s)
	at := len(b) - 1 - 4 - 44 - 1
	for m := range 256 {
		b[at] = byte(m)
		if m > 3 {
			refused(t, "the byte "+strconv.Itoa(m), b)
			continue
		}
		s.Sets[0].Snaps[0].Held, s.Sets[0].Snaps[0].Bad = m%2 == 1, m >= 2
		goes(t, "the byte "+strconv.Itoa(m), s)
		if back, e := catalog.Decode(b); e != api.OK || back.Sets[0].Snaps[0].Held != (m%2 == 1) || back.Sets[0].Snaps[0].Bad != (m >= 2) {
			t.Errorf("the byte %d: %v, %d", m, back, e)
		}
	}
}

// P12.2: a short number is written one way alone; the same number with more bytes is refused, wherever one stands.
func TestShortNumbersAreShort(t *testing.T) {
	s := api.State{Next: 1, Sets: []api.Set{{Name: "a", Snaps: []api.Snap{{Name: "s"}}}}, Losses: []api.Loss{{Snap: "s", Cell: 3}}}
	b := laid(s)
	goes(t, "short numbers", s)
	counts := []int{4, 9, 55, 56, 151, 156, 158} // datasets, a's name, its snapshots, their name, losses, their snapshot, their cell
	for _, at := range counts {
		if want := s.Losses[0].Cell; b[at] != 1 && int(b[at]) != want {
			t.Fatalf("no short number stands at %d", at)
		}
		for more := 1; more < 12; more++ {
			long := slices.Concat(b[:at], []byte{b[at] | 128}, bytes.Repeat([]byte{128}, more-1), []byte{0}, b[at+1:])
			refused(t, "a number in too many bytes", long)
		}
		for _, n := range []uint64{16, 65, 127, 128, 1 << 32, 1<<32 + 1, 1 << 63, 1<<63 + 1, math.MaxUint64} {
			refused(t, "a great number", slices.Concat(b[:at], binary.AppendUvarint(nil, n), b[at+1:]))
		}
		refused(t, "no number", slices.Concat(b[:at], bytes.Repeat([]byte{255}, 11), b[at+1:]))
	}
}

// exact holds a Decode of any bytes against P12.2: a state that is written as these bytes, or ErrForm alone.
func exact(t *testing.T, b []byte) bool {
	t.Helper()
	s, e := catalog.Decode(b)
	if e != api.OK {
		if e != api.ErrForm || !none(s) {
			t.Errorf("Decode: %d, want ErrForm alone", e)
		}
		return false
	}
	back, e := catalog.Encode(s)
	if e != api.OK || !bytes.Equal(back, b) || !bytes.Equal(laid(s), b) || !catalog.May(s) {
		t.Errorf("Decode tells a state that is not written so: %d", e)
	}
	return true
}

// P12.2: each byte of a state another way is another state, or none.
func TestOneByteAnotherWay(t *testing.T) {
	was, taken := plain(), 0
	was.Sets[0].Snaps = was.Sets[0].Snaps[:1]
	b := laid(was)
	for i := range b {
		for c := range 256 {
			x := bytes.Clone(b)
			x[i] = byte(c)
			if !exact(t, x) || x[i] == b[i] {
				continue
			}
			taken++
			if s, _ := catalog.Decode(x); catalog.Same(s, was) {
				t.Errorf("the byte %d as %d is the same state", i, c)
			}
		}
	}
	if taken == 0 {
		t.Error("no other state was taken")
	}
}

// chance is a state by chance, whose parts are often at an edge, and often may not be if wild.
func chance(r *rand.Rand, wild bool) api.State {
	names := []string{"a", "b", "c", "d", "e", "f", "0", "-", "snap-1", "abcdefghijkl"}
	name := func() string {
		if wild && r.Intn(60) == 0 {
			return []string{"", "A", "abcdefghijklm", "a\xff"}[r.Intn(4)]
		}
		return names[r.Intn(len(names))]
	}
	point := func() api.Ptr {
		p := api.Ptr{Birth: r.Uint32(), At: [2]uint32{1 + r.Uint32()>>1, r.Uint32() | 1<<31}}
		r.Read(p.Hash[:])
		if r.Intn(3) == 0 {
			return api.Ptr{}
		}
		if wild && r.Intn(80) == 0 {
			p.At[0] = p.At[1] * uint32(r.Intn(2))
		}
		return p
	}
	s := api.State{Next: 7 + r.Uint32()>>uint(r.Intn(30)), Cursor: r.Uint32(), Inbox: point()}
	sure := r.Perm(len(names))
	for i := range r.Intn(7) {
		t := api.Set{ID: uint32(i), Name: names[sure[i]], Head: point()}
		if wild && r.Intn(8) == 0 {
			t.Name, t.ID = name(), uint32(r.Intn(9))
		}
		txg, own := uint32(0), r.Perm(len(names))
		for j := range r.Intn(7) {
			txg += 1 + uint32(r.Intn(3))
			n := api.Snap{Name: names[own[j]], Txg: txg, Root: point(), List: point(), Held: r.Intn(2) == 0, Bad: r.Intn(2) == 0}
			if wild && r.Intn(20) == 0 {
				n.Name, n.Txg = name(), uint32(r.Intn(20))
			}
			t.Snaps = append(t.Snaps, n)
		}
		s.Sets = append(s.Sets, t)
	}
	for range r.Intn(65) >> uint(r.Intn(7)) {
		l := api.Loss{Set: r.Uint32(), Snap: name(), Cell: r.Intn(16)}
		r.Read(l.Hash[:])
		if wild && r.Intn(60) == 0 {
			l.Cell = r.Intn(40) - 12
		}
		s.Losses = append(s.Losses, l)
	}
	return s
}

// mayBe is the chapter's sentence of a state, each two of it held against each other.
func mayBe(s api.State) bool {
	fits := func(p api.Ptr) bool {
		return p.At[0] == 0 && p.At[1] == 0 || p.At[0] != 0 && p.At[0] != p.At[1]
	}
	named := func(n string) bool {
		return 1 <= len(n) && len(n) <= 12 && strings.Trim(n, "abcdefghijklmnopqrstuvwxyz0123456789-") == ""
	}
	is := len(s.Sets) <= 6 && len(s.Losses) <= 64 && fits(s.Inbox)
	for i, t := range s.Sets {
		is = is && named(t.Name) && t.ID < s.Next && fits(t.Head) && len(t.Snaps) <= 6
		for _, u := range s.Sets[:i] {
			is = is && u.Name != t.Name && u.ID != t.ID
		}
		for j, n := range t.Snaps {
			is = is && named(n.Name) && fits(n.Root) && fits(n.List)
			for _, o := range t.Snaps[:j] {
				is = is && o.Name != n.Name && o.Txg < n.Txg
			}
		}
	}
	for _, l := range s.Losses {
		is = is && named(l.Snap) && 0 <= l.Cell && l.Cell <= 15
	}
	return is
}

// P12.2: random states that may be, there and back; of random states, which may be.
func TestRandomStates(t *testing.T) {
	r := rand.New(rand.NewSource(12))
	was := api.State{}
	for range 1500 {
		s := chance(r, false)
		goes(t, "by chance", s)
		if catalog.Same(s, was) != bytes.Equal(laid(s), laid(was)) {
			t.Error("Same of two states by chance")
		}
		was = s
	}
	may := 0
	for range 3000 {
		s := chance(r, true)
		if mayBe(s) {
			may++
			goes(t, "wild", s)
		} else {
			fails(t, "wild", s)
		}
	}
	if may < 300 || may > 2700 {
		t.Errorf("%d of 3000 wild states may be: too few of one kind", may)
	}
}

// P12.2, R1: states that are cut, lengthened and bent by chance.
func TestRandomBytes(t *testing.T) {
	r := rand.New(rand.NewSource(13))
	taken := 0
	for range 20000 {
		b := laid(chance(r, false))
		for range r.Intn(4) {
			i := r.Intn(len(b))
			switch r.Intn(5) {
			case 0:
				b = slices.Delete(b, i, min(len(b), i+1+r.Intn(50)))
			case 1:
				b = slices.Insert(b, i, make([]byte, 1+r.Intn(50))...)
			default:
				b[i] ^= 1 << r.Intn(8)
			}
			if len(b) == 0 {
				break
			}
		}
		if exact(t, b) {
			taken++
		}
	}
	if taken == 0 || taken == 20000 {
		t.Errorf("%d of 20000 were taken", taken)
	}
}

// parts are changes of a state, each of one part of it alone.
func parts() []bend {
	return []bend{
		{"Next", func(s *api.State) { s.Next++ }},
		{"Cursor", func(s *api.State) { s.Cursor++ }},
		{"Inbox.Hash", func(s *api.State) { s.Inbox.Hash[31]++ }},
		{"Inbox.Birth", func(s *api.State) { s.Inbox.Birth++ }},
		{"Inbox.At", func(s *api.State) { s.Inbox.At[1]++ }},
		{"ID", func(s *api.State) { s.Sets[1].ID++ }},
		{"Name", func(s *api.State) { s.Sets[1].Name += "x" }},
		{"Head", func(s *api.State) { s.Sets[0].Head.At[0]++ }},
		{"Snap.Name", func(s *api.State) { s.Sets[0].Snaps[1].Name = "x" }},
		{"Txg", func(s *api.State) { s.Sets[0].Snaps[2].Txg++ }},
		{"Root", func(s *api.State) { s.Sets[1].Snaps[0].Root.Birth++ }},
		{"List", func(s *api.State) { s.Sets[0].Snaps[0].List.Hash[0]++ }},
		{"Held", func(s *api.State) { s.Sets[0].Snaps[1].Held = true }},
		{"Bad", func(s *api.State) { s.Sets[0].Snaps[0].Bad = true }},
		{"Loss.Set", func(s *api.State) { s.Losses[0].Set++ }},
		{"Loss.Snap", func(s *api.State) { s.Losses[1].Snap = "z" }},
		{"Cell", func(s *api.State) { s.Losses[1].Cell = 1 }},
		{"Loss.Hash", func(s *api.State) { s.Losses[0].Hash[16]++ }},
		{"a dataset fewer", func(s *api.State) { s.Sets = s.Sets[:2] }},
		{"no dataset", func(s *api.State) { s.Sets = nil }},
		{"a dataset more", func(s *api.State) { s.Sets = append(s.Sets, api.Set{Name: "more"}) }},
		{"datasets changed about", func(s *api.State) { s.Sets[0], s.Sets[1] = s.Sets[1], s.Sets[0] }},
		{"a snapshot fewer", func(s *api.State) { s.Sets[0].Snaps = s.Sets[0].Snaps[:2] }},
		{"no snapshot", func(s *api.State) { s.Sets[1].Snaps = nil }},
		{"a snapshot more", func(s *api.State) { s.Sets[2].Snaps = []api.Snap{{}} }},
		{"snapshots changed about", func(s *api.State) {
			s.Sets[0].Snaps[0], s.Sets[0].Snaps[1] = s.Sets[0].Snaps[1], s.Sets[0].Snaps[0]
		}},
		{"a loss fewer", func(s *api.State) { s.Losses = s.Losses[:1] }},
		{"no loss", func(s *api.State) { s.Losses = nil }},
		{"a loss more", func(s *api.State) { s.Losses = append(s.Losses, api.Loss{}) }},
		{"losses changed about", func(s *api.State) { s.Losses[0], s.Losses[1] = s.Losses[1], s.Losses[0] }},
	}
}

// P12.1, L2: Same tells each part that is another, both ways about; also of states that may not be.
func TestSame(t *testing.T) {
	strange := api.State{Sets: []api.Set{{Name: "A", ID: 9, Snaps: []api.Snap{{}, {}}}, {Name: "A", ID: 9}, {}}, Losses: []api.Loss{{Cell: -1}, {Cell: 99}}}
	for _, s := range []api.State{{}, plain(), full(), strange} {
		if !catalog.Same(s, s) || !catalog.Same(s, twin(s)) || !catalog.Same(twin(s), s) {
			t.Error("a state is not as itself")
		}
	}
	for _, x := range parts() {
		s := plain()
		x.do(&s)
		if catalog.Same(s, plain()) || catalog.Same(plain(), s) {
			t.Errorf("Same, another %s", x.what)
		}
	}
	if catalog.Same(plain(), full()) || catalog.Same(api.State{}, plain()) || catalog.Same(plain(), api.State{}) {
		t.Error("Same of unlike states")
	}
}

// P12.1, L2, R4: lists of none are alike, nil or empty.
func TestSameOfNone(t *testing.T) {
	a := api.State{Sets: []api.Set{{Name: "a", Snaps: []api.Snap{}}}, Losses: []api.Loss{}}
	b := api.State{Sets: []api.Set{{Name: "a"}}}
	if !catalog.Same(a, b) || !catalog.Same(b, a) {
		t.Error("nil and empty snapshots, losses")
	}
	if !catalog.Same(api.State{Sets: []api.Set{}}, api.State{}) || !catalog.Same(api.State{}, api.State{Sets: []api.Set{}}) {
		t.Error("nil and empty datasets")
	}
}

// P12.1, L2: FindSet and FindSnap tell each one's place, and -1.
func TestFind(t *testing.T) {
	s := full()
	for i, d := range s.Sets {
		if got := catalog.FindSet(s, d.Name); got != i {
			t.Errorf("FindSet(%q): %d", d.Name, got)
		}
		for j, n := range d.Snaps {
			if got := catalog.FindSnap(d, n.Name); got != j {
				t.Errorf("FindSnap(%q): %d", n.Name, got)
			}
		}
	}
	for _, name := range []string{"", "a", "dataset-000", "dataset-0006", "dataset-00000", "DATASET-0000", "snapshot-006", "\xff"} {
		if got := catalog.FindSet(s, name); got != -1 {
			t.Errorf("FindSet(%q): %d", name, got)
		}
		if got := catalog.FindSnap(s.Sets[0], name); got != -1 {
			t.Errorf("FindSnap(%q): %d", name, got)
		}
	}
	if catalog.FindSet(s, "snapshot-000") != -1 || catalog.FindSnap(s.Sets[0], "dataset-0000") != -1 {
		t.Error("one of another kind is found")
	}
	if catalog.FindSet(api.State{}, "a") != -1 || catalog.FindSnap(api.Set{Name: "a"}, "a") != -1 || catalog.FindSet(api.State{}, "") != -1 {
		t.Error("one of none is found")
	}
}

// P12.1, L2: the first one of that name, also of what may not be.
func TestFindTheFirst(t *testing.T) {
	s := api.State{Sets: []api.Set{{Name: "b", ID: 1}, {Name: "a", ID: 2}, {}, {Name: "a", ID: 3}, {}, {Name: "É"}, {Name: "last"}}}
	d := api.Set{Snaps: []api.Snap{{Name: "b"}, {Name: "a", Txg: 2}, {}, {Name: "a", Txg: 3}, {}, {Name: "É"}, {Name: "last"}}}
	for name, at := range map[string]int{"b": 0, "a": 1, "": 2, "É": 5, "last": 6, "c": -1} {
		if got := catalog.FindSet(s, name); got != at {
			t.Errorf("FindSet(%q): %d", name, got)
		}
		if got := catalog.FindSnap(d, name); got != at {
			t.Errorf("FindSnap(%q): %d", name, got)
		}
	}
}

// wreck changes all that lies in a state's lists, and in their spare room.
func wreck(s api.State) {
	for _, t := range s.Sets {
		l := t.Snaps[:cap(t.Snaps)]
		for i := range l {
			l[i] = api.Snap{Name: "wreck", Txg: 99, Held: !l[i].Held}
		}
	}
	d := s.Sets[:cap(s.Sets)]
	for i := range d {
		d[i] = api.Set{Name: "wreck", ID: 99}
	}
	l := s.Losses[:cap(s.Losses)]
	for i := range l {
		l[i] = api.Loss{Snap: "wreck", Cell: 99}
	}
}

// P12.1, L2: Copy is alike, and shares no memory, either way about; also of states that may not be.
func TestCopy(t *testing.T) {
	strange := api.State{Sets: []api.Set{{Name: "A", Snaps: []api.Snap{{Name: "É"}, {}}}, {}}, Losses: make([]api.Loss, 100)}
	for _, s := range []api.State{{}, plain(), full(), strange} {
		was := twin(s)
		c := catalog.Copy(s)
		if !catalog.Same(c, s) || !bytes.Equal(laid(c), laid(was)) {
			t.Error("Copy is another state")
		}
		wreck(c)
		if !bytes.Equal(laid(s), laid(was)) {
			t.Error("what was copied is changed with its copy")
		}
		c = catalog.Copy(s)
		wreck(s)
		if !bytes.Equal(laid(c), laid(was)) {
			t.Error("a copy is changed with what was copied")
		}
	}
	for _, x := range parts() {
		s := plain()
		c := catalog.Copy(s)
		x.do(&c)
		if !bytes.Equal(laid(s), laid(plain())) || catalog.Same(c, s) {
			t.Errorf("Copy, another %s", x.what)
		}
	}
}

// R4: no two lists of a copy share memory, also where those of what is copied do, and their spare room.
func TestCopyOfSharedLists(t *testing.T) {
	snaps := []api.Snap{{Name: "s"}, {Name: "t", Txg: 1}, {Name: "u", Txg: 2}, {Name: "spare", Txg: 3}}
	losses := []api.Loss{{Snap: "s"}, {Snap: "spare"}}
	s := api.State{Sets: []api.Set{{Name: "a", Snaps: snaps[:2]}, {Name: "b", Snaps: snaps[1:3]}, {Name: "c", Snaps: snaps[:0]}}, Losses: losses[:1]}
	c := catalog.Copy(s)
	c.Sets[0].Snaps[1].Name = "x"
	if c.Sets[1].Snaps[0].Name != "t" {
		t.Error("two lists of a copy share memory")
	}
	c.Sets[0].Snaps = append(c.Sets[0].Snaps, api.Snap{Name: "y"})
	c.Sets[2].Snaps = append(c.Sets[2].Snaps, api.Snap{Name: "z"})
	c.Losses = append(c.Losses, api.Loss{Snap: "y"})
	wreck(c)
	if snaps[0].Name != "s" || snaps[1].Name != "t" || snaps[2].Name != "u" || snaps[3].Name != "spare" || losses[1].Snap != "spare" {
		t.Error("what was copied, or what lies behind it, is changed")
	}
}

// R4: what is handed in, and the room behind it, stays, and is not kept.
func TestArgumentsStay(t *testing.T) {
	s := plain()
	s.Sets = append(s.Sets, api.Set{Name: "spare"})[:3]
	s.Losses = append(s.Losses, api.Loss{Snap: "spare"})[:2]
	s.Sets[0].Snaps = append(s.Sets[0].Snaps, api.Snap{Name: "spare"})[:3]
	catalog.May(s)
	catalog.Encode(s)
	catalog.Same(s, plain())
	catalog.FindSet(s, "b")
	catalog.FindSnap(s.Sets[0], "t")
	catalog.Copy(s)
	if !bytes.Equal(laid(s), laid(plain())) || s.Sets[:4][3].Name != "spare" || s.Losses[:3][2].Snap != "spare" || s.Sets[0].Snaps[:4][3].Name != "spare" {
		t.Error("a state that was handed in is changed")
	}
	room := append(laid(s), 77, 77, 77)
	was := bytes.Clone(room)
	got, e := catalog.Decode(room[:len(room)-3])
	if e != api.OK || !bytes.Equal(room, was) {
		t.Errorf("Decode: %d, or what was handed in is changed", e)
	}
	clear(room)
	if !catalog.Same(got, plain()) {
		t.Error("the bytes that were handed in are kept")
	}
}

// R4, R5: answers are new memory, their spare room too, and the same again.
func TestAnswersAreApart(t *testing.T) {
	a, _ := catalog.Encode(plain())
	b, _ := catalog.Encode(plain())
	clear(a[:cap(a)])
	if !bytes.Equal(b, laid(plain())) {
		t.Error("two answers of Encode share memory")
	}
	x, _ := catalog.Decode(b)
	y, _ := catalog.Decode(b)
	x.Sets[0].Snaps = append(x.Sets[0].Snaps, api.Snap{})
	wreck(x)
	if !catalog.Same(y, plain()) {
		t.Error("two answers of Decode share memory")
	}
	z, _ := catalog.Decode(b)
	z.Sets[0].Snaps[0].Name = "x"
	z.Sets[0].Snaps = append(z.Sets[0].Snaps, api.Snap{Name: "y"})
	if z.Sets[1].Snaps[0].Name != "s" || !catalog.Same(y, plain()) {
		t.Error("two lists of an answer of Decode share memory")
	}
}
