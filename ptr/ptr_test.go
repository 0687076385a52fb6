package ptr_test

import (
	"bytes"
	"encoding/binary"
	"math"
	"math/rand"
	"slices"
	"testing"

	"cautery/api"
	"cautery/ptr"
)

// size is how many bytes a pointer has, by the chapter's words.
const size = 44

// kind is a pointer, and what the chapter's words say of it, worked out by hand.
type kind struct {
	p                 api.Ptr
	may, hole, absent bool
}

// counted is a hash whose bytes all differ.
func counted(from byte) [32]byte {
	var h [32]byte
	for i := range h {
		h[i] = from + byte(i)
	}
	return h
}

// at is a pointer with places and nothing else.
func at(a, b uint32) api.Ptr { return api.Ptr{At: [2]uint32{a, b}} }

// kinds are pointers of all kinds, at their edges.
func kinds() []kind {
	full := counted(1)
	return []kind{
		{api.Ptr{}, true, true, false},
		{api.Ptr{Birth: 1}, true, false, true},
		{api.Ptr{Birth: math.MaxUint32}, true, false, true},
		{api.Ptr{Hash: [32]byte{1}}, true, false, true},
		{api.Ptr{Hash: [32]byte{31: 1}}, true, false, true},
		{api.Ptr{Hash: full, Birth: 7}, true, false, true},
		{at(5, 0), true, false, false},
		{at(1, 0), true, false, false},
		{at(math.MaxUint32, 0), true, false, false},
		{at(5, 6), true, false, false},
		{at(6, 5), true, false, false},
		{at(1, math.MaxUint32), true, false, false},
		{at(5, 5+1<<8), true, false, false},
		{at(5, 5+1<<16), true, false, false},
		{at(5, 5+1<<24), true, false, false},
		{api.Ptr{Hash: full, Birth: 0x04030201, At: [2]uint32{0x08070605, 0x0c0b0a09}}, true, false, false},
		{api.Ptr{Hash: full, Birth: 9, At: [2]uint32{3, 0}}, true, false, false},
		{at(0, 1), false, false, false},
		{at(0, 5), false, false, false},
		{at(0, 1<<8), false, false, false},
		{at(0, 1<<24), false, false, false},
		{at(0, math.MaxUint32), false, false, false},
		{at(1, 1), false, false, false},
		{at(5, 5), false, false, false},
		{at(math.MaxUint32, math.MaxUint32), false, false, false},
		{api.Ptr{Hash: full, Birth: 2, At: [2]uint32{0, 4}}, false, false, false},
		{api.Ptr{Hash: full, Birth: 2, At: [2]uint32{4, 4}}, false, false, false},
	}
}

// laid is a pointer as it is written, by the library.
func laid(p api.Ptr) []byte {
	b := bytes.Clone(p.Hash[:])
	for _, n := range []uint32{p.Birth, p.At[0], p.At[1]} {
		b = binary.LittleEndian.AppendUint32(b, n)
	}
	return b
}

// laidNode is a node as it is written, by the library.
func laidNode(l [4]api.Ptr) []byte {
	b := slices.Concat(laid(l[0]), laid(l[1]), laid(l[2]), laid(l[3]))
	return append(b, make([]byte, api.Sector-4*size)...)
}

// drawn is a pointer by chance, whose parts are often equal and often 0.
func drawn(r *rand.Rand) api.Ptr {
	few := []uint32{0, 0, 1, 2, 2, 256, 1 << 31, math.MaxUint32}
	p := api.Ptr{Birth: few[r.Intn(len(few))], At: [2]uint32{few[r.Intn(len(few))], few[r.Intn(len(few))]}}
	if r.Intn(2) == 0 {
		r.Read(p.Hash[:])
	}
	return p
}

// mayBe is the chapter's sentence, by itself.
func mayBe(p api.Ptr) bool {
	return p.At[0] == 0 && p.At[1] == 0 || p.At[0] != 0 && p.At[1] != p.At[0]
}

// noPtr holds a Decode against an error alone.
func noPtr(t *testing.T, what string, b []byte, want api.Errno) {
	t.Helper()
	if p, e := ptr.Decode(b); p != (api.Ptr{}) || e != want {
		t.Errorf("Decode, %s: %v, %d, want the error %d alone", what, p, e, want)
	}
}

// noNode holds a Read against ErrForm alone.
func noNode(t *testing.T, what string, b []byte) {
	t.Helper()
	if l, e := ptr.Read(b); l != ([4]api.Ptr{}) || e != api.ErrForm {
		t.Errorf("Read, %s: %v, %d, want ErrForm alone", what, l, e)
	}
}

// P5.1, E1: Hash, Birth, At[0], At[1], each number with the lowest byte first; also of pointers that may not be.
func TestEncode(t *testing.T) {
	p := api.Ptr{Hash: counted(100), Birth: 0x04030201, At: [2]uint32{0x08070605, 0x0c0b0a09}}
	got := ptr.Encode(p)
	for i, c := range got {
		want := byte(100 + i)
		if i >= 32 {
			want = byte(i - 31)
		}
		if c != want {
			t.Errorf("Encode: the byte %d is %d, not %d", i, c, want)
		}
	}
	for _, x := range kinds() {
		if b := ptr.Encode(x.p); !bytes.Equal(b[:], laid(x.p)) {
			t.Errorf("Encode(%v) = %v", x.p, b)
		}
	}
}

// P5.1, E1: which pointers may be, are holes, are absent.
func TestKinds(t *testing.T) {
	for _, x := range kinds() {
		if got := ptr.May(x.p); got != x.may {
			t.Errorf("May(%v) = %v", x.p, got)
		}
		if got := ptr.IsHole(x.p); got != x.hole {
			t.Errorf("IsHole(%v) = %v", x.p, got)
		}
		if got := ptr.IsAbsent(x.p); got != x.absent {
			t.Errorf("IsAbsent(%v) = %v", x.p, got)
		}
	}
}

// P5.1, E1: a pointer with one bit set anywhere is no hole, and is absent where that bit gives it no place.
func TestOneBitIsNoHole(t *testing.T) {
	for i := range size {
		for bit := range 8 {
			b := make([]byte, size)
			b[i] = 1 << bit
			p := api.Ptr{Hash: [32]byte(b), Birth: binary.LittleEndian.Uint32(b[32:]), At: [2]uint32{binary.LittleEndian.Uint32(b[36:]), binary.LittleEndian.Uint32(b[40:])}}
			if ptr.IsHole(p) || ptr.IsAbsent(p) != (i < 36) || ptr.May(p) != (i < 40) {
				t.Errorf("the bit %d of the byte %d: hole %v, absent %v, may %v", bit, i, ptr.IsHole(p), ptr.IsAbsent(p), ptr.May(p))
			}
			if ptr.IsEmpty([4]api.Ptr{{}, {}, {}, p}) {
				t.Errorf("the bit %d of the byte %d: empty", bit, i)
			}
		}
	}
}

// P5.1, E1: the pointer of 44 bytes.
func TestDecode(t *testing.T) {
	for _, x := range kinds() {
		if !x.may {
			noPtr(t, "may not be", laid(x.p), api.ErrForm)
			continue
		}
		if p, e := ptr.Decode(laid(x.p)); p != x.p || e != api.OK {
			t.Errorf("Decode of %v = %v, %d", x.p, p, e)
		}
	}
}

// P5.1, E1: ErrShort of fewer bytes, whatever they are, also with room behind their end.
func TestDecodeTellsShort(t *testing.T) {
	noPtr(t, "nil", nil, api.ErrShort)
	noPtr(t, "empty", []byte{}, api.ErrShort)
	for _, x := range kinds() {
		for n := range size {
			noPtr(t, "short", laid(x.p)[:n], api.ErrShort)
		}
	}
}

// P5.1, E1: ErrForm of more bytes, also of noughts.
func TestDecodeTellsLong(t *testing.T) {
	for _, more := range []int{1, 2, size, api.Sector, 100000} {
		for _, x := range kinds() {
			noPtr(t, "long", append(laid(x.p), make([]byte, more)...), api.ErrForm)
			noPtr(t, "long", append(laid(x.p), bytes.Repeat([]byte{1}, more)...), api.ErrForm)
		}
	}
}

// P5.1, E2: four pointers, one behind the other, and noughts; also of pointers that may not be.
func TestNode(t *testing.T) {
	l := kinds()
	for i := range l {
		n := [4]api.Ptr{l[i].p, l[(i+1)%len(l)].p, l[(i+2)%len(l)].p, l[(i+5)%len(l)].p}
		if got := ptr.Node(n); !bytes.Equal(got, laidNode(n)) {
			t.Errorf("Node(%v) = %v", n, got)
		}
	}
}

// P5.1, the chapter's example 1: a node of holes is 256 noughts, and they are read as holes.
func TestNodeOfHoles(t *testing.T) {
	if got := ptr.Node([4]api.Ptr{}); !bytes.Equal(got, make([]byte, api.Sector)) {
		t.Errorf("a node of holes: %v", got)
	}
	if l, e := ptr.Read(make([]byte, api.Sector)); l != ([4]api.Ptr{}) || e != api.OK {
		t.Errorf("Read of noughts: %v, %d", l, e)
	}
}

// P5.1, E2: each kind of pointer at each place of a node, among others that may be.
func TestRead(t *testing.T) {
	for i := range 4 {
		for _, x := range kinds() {
			l := [4]api.Ptr{at(4, 5), {}, {Hash: counted(3), Birth: 1}, at(6, 0)}
			l[i] = x.p
			if !x.may {
				noNode(t, "one may not be", laidNode(l))
				continue
			}
			if got, e := ptr.Read(laidNode(l)); got != l || e != api.OK {
				t.Errorf("Read of %v = %v, %d", l, got, e)
			}
		}
	}
}

// P5.1, E2: ErrForm of fewer and of more bytes than 256, never ErrShort.
func TestReadTellsLengths(t *testing.T) {
	noNode(t, "nil", nil)
	noNode(t, "empty", []byte{})
	for _, n := range []int{1, size - 1, size, 4*size - 1, 4 * size, 4*size + 1, api.Sector - 1, api.Sector + 1, 2 * api.Sector, 100000} {
		noNode(t, "a wrong length", make([]byte, n))
	}
	full := laidNode([4]api.Ptr{at(1, 2), at(3, 4), at(5, 6), at(7, 8)})
	for n := range full {
		noNode(t, "cut short", full[:n])
	}
	noNode(t, "one more", append(full, 0))
}

// P5.1, E2: ErrForm, if any byte behind the pointers is not 0; those of the pointers may be.
func TestReadTellsBytesBehind(t *testing.T) {
	for i := 4 * size; i < api.Sector; i++ {
		for _, c := range []byte{1, 128, 255} {
			b := laidNode([4]api.Ptr{at(1, 2), {}, at(5, 6), {Birth: 3}})
			b[i] = c
			noNode(t, "a byte behind", b)
			b = make([]byte, api.Sector)
			b[i] = c
			noNode(t, "a byte behind holes", b)
		}
	}
}

// P5.1, E2: EMPTY are four holes, and nothing else, also not pointers that may not be.
func TestIsEmpty(t *testing.T) {
	if !ptr.IsEmpty([4]api.Ptr{}) {
		t.Error("four holes are not empty")
	}
	for i := range 4 {
		for _, x := range kinds() {
			var l [4]api.Ptr
			l[i] = x.p
			if ptr.IsEmpty(l) != x.hole {
				t.Errorf("IsEmpty with %v at %d: %v", x.p, i, !x.hole)
			}
			l = [4]api.Ptr{x.p, x.p, x.p, x.p}
			if ptr.IsEmpty(l) != x.hole {
				t.Errorf("IsEmpty with four of %v: %v", x.p, !x.hole)
			}
		}
	}
}

// P5.2: what may be is decoded as it was encoded, and what may not be is not.
func TestThereAndBack(t *testing.T) {
	r := rand.New(rand.NewSource(5))
	had := map[bool]int{}
	for range 20000 {
		p := drawn(r)
		b := ptr.Encode(p)
		may := mayBe(p)
		had[may]++
		if ptr.May(p) != may {
			t.Fatalf("May(%v) = %v", p, !may)
		}
		if !may {
			noPtr(t, "may not be", b[:], api.ErrForm)
		} else if q, e := ptr.Decode(b[:]); q != p || e != api.OK {
			t.Fatalf("Decode(Encode(%v)) = %v, %d", p, q, e)
		}
	}
	if had[true] < 1000 || had[false] < 1000 {
		t.Errorf("too few to tell: %v", had)
	}
}

// P5.2: of any 44 bytes, those that are decoded are a pointer that may be, and it is encoded as they are.
func TestOnlyThat(t *testing.T) {
	r := rand.New(rand.NewSource(55))
	for range 20000 {
		b := make([]byte, size)
		for i := range b {
			if r.Intn(6) == 0 {
				b[i] = byte(r.Intn(3))
			}
		}
		p, e := ptr.Decode(b)
		if e != api.OK {
			noPtr(t, "again", b, api.ErrForm)
			continue
		}
		if got := ptr.Encode(p); !bytes.Equal(got[:], b) || !ptr.May(p) {
			t.Fatalf("Decode(%v) = %v, encoded %v", b, p, got)
		}
	}
}

// P5.2: the same of nodes: all four may be, or none is told.
func TestNodesThereAndBack(t *testing.T) {
	r := rand.New(rand.NewSource(555))
	had := map[bool]int{}
	for range 20000 {
		var l [4]api.Ptr
		may := true
		for i := range l {
			l[i] = drawn(r)
			may = may && mayBe(l[i])
		}
		had[may]++
		b := ptr.Node(l)
		if !may {
			noNode(t, "one may not be", b)
		} else if got, e := ptr.Read(b); got != l || e != api.OK {
			t.Fatalf("Read(Node(%v)) = %v, %d", l, got, e)
		}
	}
	if had[true] < 1000 || had[false] < 1000 {
		t.Errorf("too few to tell: %v", had)
	}
}

// R4: what is handed in, and the room behind it, stays; an answer is new memory, its spare room too.
func TestSharesNothing(t *testing.T) {
	p := api.Ptr{Hash: counted(1), Birth: 2, At: [2]uint32{3, 4}}
	l := [4]api.Ptr{p, {}, p, {}}
	room := append(laidNode(l), bytes.Repeat([]byte{77}, 50)...)
	kept := bytes.Clone(room)
	ptr.Decode(room[:size])
	got, _ := ptr.Read(room[:api.Sector])
	if !bytes.Equal(room, kept) {
		t.Error("what was handed in was changed")
	}
	clear(room)
	if got != l {
		t.Error("Read keeps what was handed in")
	}
	first, second := ptr.Node(l), ptr.Node(l)
	clear(first[:cap(first)])
	if !bytes.Equal(second, laidNode(l)) || !bytes.Equal(ptr.Node(l), laidNode(l)) {
		t.Error("two nodes share memory")
	}
}

// R5: the same bytes answer the same, whatever was asked between.
func TestAnswersStay(t *testing.T) {
	b := laidNode([4]api.Ptr{at(1, 2), {}, {Birth: 9}, at(7, 0)})
	l, e := ptr.Read(b)
	ptr.Read(b[:9])
	ptr.Decode(laid(at(5, 5)))
	if again, f := ptr.Read(b); again != l || e != api.OK || f != e {
		t.Errorf("Read: %v, %d, then %v, %d", l, e, again, f)
	}
}
