package label_test

import (
	"bytes"
	"crypto/sha256"
	"encoding/binary"
	"math"
	"math/rand"
	"slices"
	"testing"

	"cautery/api"
	"cautery/disk"
	"cautery/label"
)

// The chapter's words, counted by hand: where the map and the noughts begin, and where the hash stands.
const (
	mapAt    = 52
	noughtAt = 116
	sumAt    = 224
)

// counted is n bytes that all differ from their neighbours.
func counted(from byte, n int) []byte {
	b := make([]byte, n)
	for i := range b {
		b[i] = from + byte(i)*3
	}
	return b
}

// numbered is a label of that number, whose other parts tell the mark.
func numbered(txg uint32, mark byte) api.Label {
	return api.Label{
		Txg:  txg,
		Root: api.Ptr{Hash: [32]byte(counted(mark, 32)), Birth: txg, At: [2]uint32{7, 8}},
		Map:  counted(mark+1, 64),
	}
}

// roots are pointers that may be, at their edges.
func roots() []api.Ptr {
	h := [32]byte(counted(5, 32))
	return []api.Ptr{
		{},
		{Birth: 1},
		{Hash: h},
		{Hash: h, Birth: 0x04030201, At: [2]uint32{0x08070605, 0x0c0b0a09}},
		{Hash: h, Birth: 9, At: [2]uint32{4, 0}},
		{At: [2]uint32{1, math.MaxUint32}},
	}
}

// wrongRoots are pointers that may not be.
func wrongRoots() []api.Ptr {
	return []api.Ptr{
		{At: [2]uint32{0, 1}},
		{At: [2]uint32{0, math.MaxUint32}},
		{At: [2]uint32{5, 5}},
		{Hash: [32]byte{1}, Birth: 2, At: [2]uint32{4, 4}},
		{Hash: [32]byte{1}, Birth: 2, At: [2]uint32{0, 4}},
	}
}

// edges are numbers at which a label's bytes or places could go wrong.
func edges() []uint32 {
	return []uint32{0, 1, 2, 3, 255, 256, 65535, 65536, 0x04030201, 1<<31 - 1, 1 << 31, math.MaxUint32 - 1, math.MaxUint32}
}

// laid is a label as it is written, by the library; also one whose root may not be.
func laid(l api.Label) []byte {
	b := binary.LittleEndian.AppendUint32([]byte("CAUT"), l.Txg)
	b = append(b, l.Root.Hash[:]...)
	for _, n := range []uint32{l.Root.Birth, l.Root.At[0], l.Root.At[1]} {
		b = binary.LittleEndian.AppendUint32(b, n)
	}
	b = append(b, l.Map...)
	return summed(append(b, make([]byte, api.Sector-len(b))...))
}

// summed is b with the hash that its first bytes have.
func summed(b []byte) []byte {
	h := sha256.Sum256(b[:sumAt])
	copy(b[sumAt:], h[:])
	return b
}

// same tells whether two labels are alike.
func same(a, b api.Label) bool {
	return a.Txg == b.Txg && a.Root == b.Root && bytes.Equal(a.Map, b.Map)
}

// refuses holds a Decode against an error alone.
func refuses(t *testing.T, what string, b []byte, want api.Errno) {
	t.Helper()
	if l, e := label.Decode(b); !same(l, api.Label{}) || e != want {
		t.Errorf("Decode, %s: %v, %d, want the error %d alone", what, l, e, want)
	}
}

// made is a new disk.
func made(t *testing.T, n int) *disk.Disk {
	t.Helper()
	d, e := disk.New(n)
	if d == nil || e != api.OK {
		t.Fatalf("New(%d): %v, %d", n, d, e)
	}
	return d
}

// lay lays a label that may be, on a disk that has power.
func lay(t *testing.T, d *disk.Disk, l api.Label) {
	t.Helper()
	if e := label.Lay(d, l); e != api.OK {
		t.Fatalf("Lay of %d: %d", l.Txg, e)
	}
}

// write writes bytes to a sector, which waits.
func write(t *testing.T, d *disk.Disk, i int, b []byte) {
	t.Helper()
	if e := d.Write(i, b); e != api.OK {
		t.Fatalf("Write of %d: %d", i, e)
	}
}

// chooses holds a Choose against a label, and how many there are.
func chooses(t *testing.T, what string, d *disk.Disk, l api.Label, n int) {
	t.Helper()
	if got, k, e := label.Choose(d); !same(got, l) || k != n || e != api.OK {
		t.Errorf("Choose, %s: %d, %d, %d, want %d, %d", what, got.Txg, k, e, l.Txg, n)
	}
}

// chooseTells holds a Choose against an error alone.
func chooseTells(t *testing.T, what string, d *disk.Disk, want api.Errno) {
	t.Helper()
	if l, n, e := label.Choose(d); !same(l, api.Label{}) || n != 0 || e != want {
		t.Errorf("Choose, %s: %v, %d, %d, want the error %d alone", what, l, n, e, want)
	}
}

// P7.1, G1: where each part stands, byte by byte.
func TestEncodeByHand(t *testing.T) {
	l := api.Label{
		Txg:  0x44332211,
		Root: api.Ptr{Hash: [32]byte(bytes.Repeat([]byte{9}, 32)), Birth: 0x04030201, At: [2]uint32{0x08070605, 0x0c0b0a09}},
		Map:  bytes.Repeat([]byte{200}, 64),
	}
	want := slices.Concat(
		[]byte{67, 65, 85, 84, 0x11, 0x22, 0x33, 0x44},
		bytes.Repeat([]byte{9}, 32),
		[]byte{1, 2, 3, 4, 5, 6, 7, 8, 9, 10, 11, 12},
		bytes.Repeat([]byte{200}, 64),
		make([]byte, 108),
	)
	h := sha256.Sum256(want)
	want = append(want, h[:]...)
	if got, e := label.Encode(l); e != api.OK || len(got) != 256 || !bytes.Equal(got, want) {
		t.Errorf("Encode: %x, %d, want %x", got, e, want)
	}
}

// P7.1, G1: labels at the edges, as the library writes them.
func TestEncode(t *testing.T) {
	for _, txg := range edges() {
		for _, root := range roots() {
			for _, m := range [][]byte{make([]byte, 64), counted(1, 64), bytes.Repeat([]byte{255}, 64)} {
				l := api.Label{Txg: txg, Root: root, Map: m}
				if got, e := label.Encode(l); e != api.OK || !bytes.Equal(got, laid(l)) {
					t.Errorf("Encode(%v): %x, %d", l, got, e)
				}
			}
		}
	}
}

// P7.1, G1: ErrArg alone, if the root may not be, or the map has not 64 bytes.
func TestEncodeTellsWhatMayNotBe(t *testing.T) {
	var wrong []api.Label
	for _, root := range wrongRoots() {
		wrong = append(wrong, api.Label{Txg: 4, Root: root, Map: make([]byte, 64)}, api.Label{Root: root})
	}
	for _, n := range []int{0, 1, 8, 63, 65, 128, 172, 173, 204, 1000} {
		wrong = append(wrong, api.Label{Txg: 4, Map: make([]byte, n)}, api.Label{Map: make([]byte, n, n+64)})
	}
	wrong = append(wrong, api.Label{}, api.Label{Txg: 7, Map: []byte{}})
	for _, l := range wrong {
		if b, e := label.Encode(l); len(b) != 0 || e != api.ErrArg {
			t.Errorf("Encode(%v): %v, %d", l, b, e)
		}
	}
}

// P7.1, G1: the label of 256 bytes.
func TestDecode(t *testing.T) {
	for _, txg := range edges() {
		for _, root := range roots() {
			l := api.Label{Txg: txg, Root: root, Map: counted(byte(txg), 64)}
			if got, e := label.Decode(laid(l)); e != api.OK || !same(got, l) {
				t.Errorf("Decode of %v: %v, %d", l, got, e)
			}
		}
	}
}

// P7.1, G1: ErrForm, if there are not 256 bytes, whatever their sum is.
func TestDecodeTellsLengths(t *testing.T) {
	whole := laid(numbered(5, 1))
	refuses(t, "nil", nil, api.ErrForm)
	refuses(t, "empty", []byte{}, api.ErrForm)
	for n := range whole {
		refuses(t, "cut short", whole[:n], api.ErrForm)
	}
	for _, n := range []int{1, 32, 256, 10000} {
		refuses(t, "longer", append(bytes.Clone(whole), make([]byte, n)...), api.ErrForm)
	}
	// A shorter or longer one whose last 32 bytes are the hash of what is ahead has no other form for that.
	for _, n := range []int{0, 116, 223, 225, 1000} {
		b := make([]byte, n)
		copy(b, whole)
		h := sha256.Sum256(b)
		refuses(t, "of another length, summed", append(b, h[:]...), api.ErrForm)
	}
}

// P7.1, G1: any bit that goes another way is ErrSum, also where the bytes would be no label anyway.
func TestDecodeTellsEachBit(t *testing.T) {
	whole := laid(numbered(6, 2))
	for i := range api.Sector * 8 {
		b := bytes.Clone(whole)
		b[i/8] ^= 1 << (i % 8)
		refuses(t, "a bit another way", b, api.ErrSum)
	}
	refuses(t, "noughts", make([]byte, api.Sector), api.ErrSum)
	refuses(t, "ones", bytes.Repeat([]byte{255}, api.Sector), api.ErrSum)
	for _, root := range wrongRoots() {
		b := laid(api.Label{Root: root, Map: make([]byte, 64)})
		b[255]++
		refuses(t, "a root that may not be, and another sum", b, api.ErrSum)
	}
}

// P7.1, G1: with the right sum, ErrForm of other bytes than `CAUT`, or of a root that may not be.
func TestDecodeTellsNoLabel(t *testing.T) {
	for i := range 4 {
		for _, c := range []byte{0, 1, 32, 128, 255} {
			b := laid(numbered(5, 1))
			b[i] ^= c
			if c != 0 {
				refuses(t, "another beginning", summed(b), api.ErrForm)
			}
		}
	}
	refuses(t, "noughts, summed", summed(make([]byte, api.Sector)), api.ErrForm)
	for _, root := range wrongRoots() {
		refuses(t, "a root that may not be", laid(api.Label{Txg: 3, Root: root, Map: make([]byte, 64)}), api.ErrForm)
	}
}

// P7.1, G1: each byte behind the map must be 0; each byte of the map may be any.
func TestDecodeTellsBytesBehind(t *testing.T) {
	for i := mapAt; i < sumAt; i++ {
		for _, c := range []byte{1, 128, 255} {
			b := laid(api.Label{Txg: 5, Map: make([]byte, 64)})
			b[i] = c
			summed(b)
			if i >= noughtAt {
				refuses(t, "a byte behind", b, api.ErrForm)
			} else if l, e := label.Decode(b); e != api.OK || l.Map[i-mapAt] != c {
				t.Errorf("Decode with %d at %d of the map: %v, %d", c, i-mapAt, l, e)
			}
		}
	}
}

// P7.1, G2, example 1: an even number's places are 0 and 1, an odd one's 2 and 3.
func TestPlaces(t *testing.T) {
	if got := label.Places(5); got != [2]int{2, 3} {
		t.Errorf("Places(5): %v", got)
	}
	for _, txg := range edges() {
		want := [2]int{0, 1}
		if txg&1 == 1 {
			want = [2]int{2, 3}
		}
		if got := label.Places(txg); got != want {
			t.Errorf("Places(%d): %v", txg, got)
		}
	}
}

// P7.2: what may be is decoded as it was encoded, and what may not be is not encoded.
func TestThereAndBack(t *testing.T) {
	r := rand.New(rand.NewSource(7))
	few := []uint32{0, 0, 1, 2, 2, 1 << 31, math.MaxUint32}
	had := map[bool]int{}
	for range 5000 {
		l := api.Label{Txg: r.Uint32(), Map: make([]byte, 64)}
		l.Root = api.Ptr{Birth: r.Uint32(), At: [2]uint32{few[r.Intn(len(few))], few[r.Intn(len(few))]}}
		r.Read(l.Root.Hash[:])
		r.Read(l.Map)
		a := l.Root.At
		may := a == [2]uint32{} || a[0] != 0 && a[0] != a[1]
		if r.Intn(8) == 0 {
			l.Map = l.Map[:r.Intn(64)]
			may = false
		}
		had[may]++
		b, e := label.Encode(l)
		if !may {
			if len(b) != 0 || e != api.ErrArg {
				t.Fatalf("Encode(%v): %v, %d", l, b, e)
			}
			continue
		}
		if got, f := label.Decode(b); e != api.OK || f != api.OK || !same(got, l) {
			t.Fatalf("Decode(Encode(%v)): %d, %v, %d", l, e, got, f)
		}
	}
	if had[true] < 1000 || had[false] < 1000 {
		t.Errorf("too few to tell: %v", had)
	}
}

// P7.2: of any 256 bytes with the right sum, those that are decoded are encoded as they are.
func TestOnlyThat(t *testing.T) {
	r := rand.New(rand.NewSource(77))
	had := map[api.Errno]int{}
	for range 5000 {
		b := laid(numbered(r.Uint32(), byte(r.Intn(256))))
		for range r.Intn(3) {
			b[r.Intn(sumAt)] = byte(r.Intn(3))
		}
		if r.Intn(4) == 0 {
			copy(b[44:mapAt], make([]byte, 8))
		}
		summed(b)
		l, e := label.Decode(b)
		had[e]++
		if e != api.OK {
			refuses(t, "again", b, api.ErrForm)
			continue
		}
		if got, f := label.Encode(l); f != api.OK || !bytes.Equal(got, b) {
			t.Fatalf("Decode(%x) is encoded %x, %d", b, got, f)
		}
	}
	if had[api.OK] < 1000 || had[api.ErrForm] < 500 {
		t.Errorf("too few to tell: %v", had)
	}
}

// P7.1, G2: Lay writes the label's bytes to its places, the first one first, and they wait; nothing else changes.
func TestLayWrites(t *testing.T) {
	for _, txg := range edges() {
		d := made(t, 16)
		l := numbered(txg, 4)
		lay(t, d, l)
		if d.Waits() != 2 || !bytes.Equal(d.Dump(), make([]byte, 16*api.Sector)) {
			t.Fatalf("Lay of %d: %d wait, or something is on the disk", txg, d.Waits())
		}
		first := int(txg&1) * 2
		for i := range 16 {
			want := make([]byte, api.Sector)
			if i == first || i == first+1 {
				want = laid(l)
			}
			if got, e := d.Read(i); e != api.OK || !bytes.Equal(got, want) {
				t.Errorf("Lay of %d: the sector %d: %x, %d", txg, i, got, e)
			}
		}
		// The first waiting write takes hold, the second one of 9 bytes.
		d.Crash([]int{256, 9})
		got := d.Dump()[first*api.Sector : (first+2)*api.Sector]
		want := slices.Concat(laid(l), laid(l)[:9], make([]byte, api.Sector-9))
		if !bytes.Equal(got, want) {
			t.Errorf("Lay of %d: behind a crash: %x", txg, got)
		}
		chooses(t, "behind a crash", d, l, 1)
	}
}

// P7.1, G2: what may not be is ErrArg, ahead of the disk's error, and nothing is written.
func TestLayTellsWhatMayNotBe(t *testing.T) {
	down := made(t, 16)
	down.Fuse(0)
	down.Flush()
	up := made(t, 16)
	for _, d := range []*disk.Disk{up, down, nil} {
		for _, root := range wrongRoots() {
			if e := label.Lay(d, api.Label{Txg: 2, Root: root, Map: make([]byte, 64)}); e != api.ErrArg {
				t.Errorf("Lay with the root %v: %d", root, e)
			}
		}
		for _, n := range []int{0, 63, 65} {
			if e := label.Lay(d, api.Label{Txg: 2, Map: make([]byte, n)}); e != api.ErrArg {
				t.Errorf("Lay with a map of %d bytes: %d", n, e)
			}
		}
		if d.Waits() != 0 {
			t.Errorf("%d wait", d.Waits())
		}
	}
	// A fuse is not spent on what is not written.
	up.Fuse(2)
	label.Lay(up, api.Label{Txg: 2})
	lay(t, up, numbered(2, 1))
}

// P7.1, G2: the disk's error, of the first write that has one; what was written ahead of it waits.
func TestLayTellsTheDisk(t *testing.T) {
	l := numbered(3, 1)
	if e := label.Lay(nil, l); e != api.ErrDown {
		t.Errorf("Lay on a nil disk: %d", e)
	}
	for fuse := range 2 {
		d := made(t, 16)
		d.Fuse(fuse)
		if e := label.Lay(d, l); e != api.ErrDown || d.Waits() != fuse {
			t.Errorf("Lay with a fuse of %d: %d, %d wait", fuse, e, d.Waits())
		}
		if e := label.Lay(d, l); e != api.ErrDown || d.Waits() != fuse {
			t.Errorf("Lay without power: %d, %d wait", e, d.Waits())
		}
		d.Crash([]int{256, 256})
		if fuse == 0 {
			chooseTells(t, "nothing was written", d, api.ErrPool)
		} else {
			chooses(t, "one was written", d, l, 1)
		}
	}
	if e := label.Lay(&disk.Disk{}, l); e != api.ErrArg {
		t.Errorf("Lay on a disk without sectors: %d", e)
	}
}

// P7.1, G2: the greatest number is chosen, also where a lower one was laid later, and 0 is a number like others.
func TestChooseTheGreatest(t *testing.T) {
	for _, x := range [][]uint32{
		{0}, {1}, {0, 1}, {1, 0}, {4, 3}, {3, 4}, {2, 255}, {255, 256}, {256, 255}, {254, 257},
		{math.MaxUint32, 0}, {0, math.MaxUint32}, {math.MaxUint32 - 1, math.MaxUint32}, {1 << 31, 1<<31 - 1}, {1, 1 << 31},
	} {
		for _, flush := range []bool{false, true} {
			d := made(t, 16)
			for k, txg := range x {
				lay(t, d, numbered(txg, byte(k)))
			}
			if flush {
				d.Flush()
			}
			best := slices.Max(x)
			chooses(t, "the greatest", d, numbered(best, byte(slices.Index(x, best))), 2)
		}
	}
}

// P7.1, G2: of two with one number the first sector's, and both are counted, though they are not alike.
func TestChooseOfTwo(t *testing.T) {
	for _, txg := range []uint32{0, 4, 5, math.MaxUint32} {
		p := label.Places(txg)
		a, b := numbered(txg, 10), numbered(txg, 20)
		d := made(t, 16)
		write(t, d, p[1], laid(b))
		write(t, d, p[0], laid(a))
		chooses(t, "two that differ", d, a, 2)
		write(t, d, p[0], laid(b))
		write(t, d, p[1], laid(a))
		chooses(t, "the other way round", d, b, 2)
	}
}

// P7.1, G2: two places of one parity may have two numbers; just those with the greatest one are counted.
func TestChooseCounts(t *testing.T) {
	for _, x := range []struct {
		txgs [4]uint32
		at   int
		n    int
	}{
		{[4]uint32{6, 4, 5, 3}, 0, 1},
		{[4]uint32{4, 6, 5, 3}, 1, 1},
		{[4]uint32{4, 6, 7, 3}, 2, 1},
		{[4]uint32{4, 6, 5, 7}, 3, 1},
		{[4]uint32{6, 6, 7, 5}, 2, 1},
		{[4]uint32{6, 6, 5, 5}, 0, 2},
		{[4]uint32{6, 6, 7, 7}, 2, 2},
		{[4]uint32{8, 6, 7, 7}, 0, 1},
		{[4]uint32{6, 8, 7, 7}, 1, 1},
		{[4]uint32{0, 0, 1, 1}, 2, 2},
	} {
		d := made(t, 16)
		for i, txg := range x.txgs {
			write(t, d, i, laid(numbered(txg, byte(i))))
		}
		chooses(t, "four labels", d, numbered(x.txgs[x.at], byte(x.at)), x.n)
	}
}

// P7.1, G2: a label that stands in none of its places is none of the disk's, however great its number is.
func TestChooseLooksAtPlaces(t *testing.T) {
	for i := range 4 {
		d := made(t, 16)
		write(t, d, i, laid(numbered(uint32(100+(i/2+1)%2), 9)))
		chooseTells(t, "at another place", d, api.ErrPool)
		for _, own := range []uint32{10, 11} {
			p := label.Places(own)
			if i == p[0] || i == p[1] {
				continue
			}
			lay(t, d, numbered(own, 3))
			chooses(t, "beside one at another place", d, numbered(own, 3), 2)
		}
	}
	d := made(t, 16)
	for i := 4; i < 16; i++ {
		write(t, d, i, laid(numbered(uint32(i), 1)))
	}
	chooseTells(t, "in no label's sector", d, api.ErrPool)
}

// P7.1, G2: bytes that are no label are passed over, whatever is wrong with them.
func TestChoosePassesOver(t *testing.T) {
	odd := laid(numbered(9, 1))
	odd[noughtAt] = 1
	old := laid(numbered(9, 1))
	old[0] = 'c'
	rotten := laid(numbered(9, 1))
	rotten[255] ^= 1
	root := laid(api.Label{Txg: 9, Root: wrongRoots()[0], Map: make([]byte, 64)})
	for _, b := range [][]byte{summed(odd), summed(old), rotten, root, make([]byte, 256)} {
		d := made(t, 16)
		write(t, d, 2, b)
		write(t, d, 3, b)
		chooseTells(t, "no label", d, api.ErrPool)
		write(t, d, 1, laid(numbered(2, 5)))
		chooses(t, "one label", d, numbered(2, 5), 1)
		write(t, d, 3, laid(numbered(3, 6)))
		chooses(t, "a newer one", d, numbered(3, 6), 1)
	}
}

// P7.1, G2: what waits is read ahead of what is on the disk.
func TestChooseReadsWhatWaits(t *testing.T) {
	d := made(t, 16)
	lay(t, d, numbered(4, 1))
	d.Flush()
	lay(t, d, numbered(6, 2))
	chooses(t, "one that waits", d, numbered(6, 2), 2)
	for i := range 4 {
		d.Rot(i, []byte{1})
	}
	chooses(t, "rotten below what waits", d, numbered(6, 2), 2)
	d.Crash(nil)
	chooseTells(t, "all four rotten", d, api.ErrPool)
}

// P7.1, G2: a new disk has no label; one without power, and none at all, tell the disk's error.
func TestChooseTells(t *testing.T) {
	for _, n := range []int{16, 128, 512} {
		chooseTells(t, "a new disk", made(t, n), api.ErrPool)
	}
	chooseTells(t, "a nil disk", nil, api.ErrDown)
	chooseTells(t, "a disk without sectors", &disk.Disk{}, api.ErrArg)
	for _, has := range []bool{false, true} {
		d := made(t, 16)
		if has {
			lay(t, d, numbered(4, 1))
			d.Flush()
		}
		d.Fuse(0)
		d.Flush()
		chooseTells(t, "no power", d, api.ErrDown)
		d.Crash(nil)
		if has {
			chooses(t, "power again", d, numbered(4, 1), 2)
		}
	}
}

// P7.1, R2: Choose writes nothing, and spends nothing of a fuse.
func TestChooseChangesNothing(t *testing.T) {
	d := made(t, 16)
	lay(t, d, numbered(4, 1))
	d.Fuse(1)
	was := d.Dump()
	for range 5 {
		chooses(t, "again and again", d, numbered(4, 1), 2)
	}
	if d.Waits() != 2 || !bytes.Equal(d.Dump(), was) || d.Flush() != api.OK {
		t.Error("Choose changed the disk")
	}
}

// P7.3: what was laid last is chosen, whichever of the places rot, as long as one of its own holds it.
func TestOneOfFour(t *testing.T) {
	for _, last := range []uint32{2, 3, 100, 101, math.MaxUint32 - 1, math.MaxUint32} {
		for rotten := range 16 {
			d := made(t, 16)
			lay(t, d, numbered(last-1, 1))
			lay(t, d, numbered(last, 2))
			d.Flush()
			left := map[bool]int{}
			for i := range 4 {
				if rotten>>i&1 == 1 {
					d.Rot(i, []byte{9: byte(1 + i)})
				} else {
					left[uint32(i/2) == last%2]++
				}
			}
			switch {
			case left[true] > 0:
				chooses(t, "the last one", d, numbered(last, 2), left[true])
			case left[false] > 0:
				chooses(t, "the one ahead", d, numbered(last-1, 1), left[false])
			default:
				chooseTells(t, "all four rotten", d, api.ErrPool)
			}
		}
	}
}

// P7.3: the power goes at each point of a Lay: the disk has the label ahead, or the new one, never another.
func TestCrashesWithinLay(t *testing.T) {
	sizes := []int{0, 1, 8, 60, 255, 256}
	for txg := range uint32(4) {
		for _, first := range sizes {
			for _, second := range sizes {
				d := made(t, 16)
				for k := range txg + 1 {
					lay(t, d, numbered(k+5, byte(k)))
					d.Flush()
				}
				next := numbered(txg+6, 99)
				lay(t, d, next)
				d.Crash([]int{first, second})
				if n := first/256 + second/256; n > 0 {
					chooses(t, "the new one", d, next, n)
				} else {
					chooses(t, "the one ahead", d, numbered(txg+5, byte(txg)), 2)
				}
			}
		}
	}
}

// P7.3: many labels one behind another, with crashes and rot between, held against what the places must hold.
func TestManyLays(t *testing.T) {
	r := rand.New(rand.NewSource(73))
	for range 40 {
		d := made(t, 16)
		var held [4]*api.Label
		for txg := range uint32(60) {
			l := numbered(txg, byte(r.Intn(256)))
			lay(t, d, l)
			keep := []int{256 * r.Intn(2), 256 * r.Intn(2)}
			d.Crash(keep)
			for k, i := range label.Places(txg) {
				if keep[k] == 256 {
					held[i] = &l
				}
			}
			if r.Intn(3) == 0 {
				i := r.Intn(4)
				mask := make([]byte, 256)
				mask[r.Intn(256)] = byte(1 + r.Intn(255))
				// Rot of what has rotted could make it right again.
				if held[i] != nil {
					d.Rot(i, mask)
					held[i] = nil
				}
			}
			choosesOf(t, d, held)
		}
	}
}

// choosesOf holds a Choose against what the places hold.
func choosesOf(t *testing.T, d *disk.Disk, held [4]*api.Label) {
	t.Helper()
	var best *api.Label
	n := 0
	for _, l := range held {
		if l != nil && (best == nil || l.Txg > best.Txg) {
			best, n = l, 0
		}
		if l != nil && l.Txg == best.Txg {
			n++
		}
	}
	if best == nil {
		chooseTells(t, "nothing is held", d, api.ErrPool)
		return
	}
	chooses(t, "what is held", d, *best, n)
}

// R4: what is handed in, and the room behind it, stays, and is not kept.
func TestArgumentsStay(t *testing.T) {
	room := append(counted(7, 64), 77, 77, 77)
	was := bytes.Clone(room)
	l := api.Label{Txg: 4, Map: room[:64]}
	d := made(t, 16)
	b, _ := label.Encode(l)
	lay(t, d, l)
	if !bytes.Equal(room, was) {
		t.Error("Encode or Lay changed the map")
	}
	clear(room)
	if l.Map = was[:64]; !bytes.Equal(b, laid(l)) {
		t.Error("Encode keeps the map")
	}
	chooses(t, "the map was cleared", d, l, 2)

	long := append(laid(l), 77, 77)
	old := bytes.Clone(long)
	got, e := label.Decode(long[:256])
	if e != api.OK || !bytes.Equal(long, old) {
		t.Errorf("Decode changed what was handed in: %d", e)
	}
	clear(long)
	if !same(got, l) {
		t.Error("Decode keeps what was handed in")
	}
	got.Map = append(got.Map[:64], 1, 2, 3)
	if !bytes.Equal(long, make([]byte, len(long))) {
		t.Error("a decoded map's spare room is the argument's")
	}
}

// R4: answers are new memory, their spare room too: what is written there is told by nobody.
func TestAnswersAreApart(t *testing.T) {
	l := numbered(4, 1)
	d := made(t, 16)
	lay(t, d, l)
	one, _, _ := label.Choose(d)
	clear(one.Map[:cap(one.Map)])
	chooses(t, "an answer was cleared", d, l, 2)
	d.Flush()
	one, _, _ = label.Choose(d)
	clear(one.Map[:cap(one.Map)])
	chooses(t, "an answer was cleared, flushed", d, l, 2)

	a, _ := label.Encode(l)
	b, _ := label.Encode(l)
	clear(a[:cap(a)])
	if !bytes.Equal(b, laid(l)) || !same(l, numbered(4, 1)) {
		t.Error("two answers of Encode share memory, or one and its argument do")
	}
	x, _ := label.Decode(b)
	y, _ := label.Decode(b)
	clear(x.Map[:cap(x.Map)])
	if !same(y, l) || !bytes.Equal(b, laid(l)) {
		t.Error("two answers of Decode share memory, or one and its argument do")
	}
}

// R5: the same arguments answer the same, whatever was asked between.
func TestAnswersStay(t *testing.T) {
	l := numbered(9, 9)
	a, e := label.Encode(l)
	label.Encode(api.Label{})
	label.Decode(nil)
	label.Choose(nil)
	label.Lay(made(t, 16), numbered(8, 8))
	if b, f := label.Encode(l); e != api.OK || f != api.OK || !bytes.Equal(a, b) {
		t.Errorf("Encode: %d, then %d", e, f)
	}
}
