package manifest_test

import (
	"bytes"
	"crypto/sha256"
	"encoding/binary"
	"encoding/hex"
	"math"
	"math/rand"
	"slices"
	"testing"

	"cautery/api"
	"cautery/bank"
	"cautery/disk"
	"cautery/manifest"
	"cautery/space"
	"cautery/tree"
)

// hashes is a manifest.
type hashes = [16][32]byte

// hole is the pointer of noughts.
var hole api.Ptr

// filled is a block of one byte.
func filled(c byte) []byte { return bytes.Repeat([]byte{c}, api.Sector) }

// summed is a block's hash, by the library.
func summed(b []byte) [32]byte { return sha256.Sum256(b) }

// holes is the manifest of a hole, by the library.
func holes() hashes {
	var m hashes
	for i := range m {
		m[i] = summed(filled(0))
	}
	return m
}

// counted is the manifest of the tree that full makes, by the library.
func counted() hashes {
	var m hashes
	for i := range m {
		m[i] = summed(filled(byte(i + 1)))
	}
	return m
}

// all are the numbers of all cells but some.
func all(but ...int) []int {
	var out []int
	for i := range api.Cells {
		if !slices.Contains(but, i) {
			out = append(out, i)
		}
	}
	return out
}

// made is a bank over a new disk and a new map.
func made(t *testing.T, n int, txg uint32) (*bank.Bank, *disk.Disk) {
	t.Helper()
	d, e := disk.New(n)
	m, f := space.New(n)
	if e != api.OK || f != api.OK {
		t.Fatalf("a disk and a map of %d: %d, %d", n, e, f)
	}
	return bank.Over(d, m, txg), d
}

// cut takes a disk's power.
func cut(d *disk.Disk) {
	d.Fuse(0)
	d.Flush()
}

// rot spoils the copies of a pointer.
func rot(t *testing.T, d *disk.Disk, p api.Ptr) {
	t.Helper()
	d.Flush()
	for _, at := range p.At {
		if at == 0 {
			continue
		}
		if e := d.Rot(int(at), []byte{0, 128}); e != api.OK {
			t.Fatalf("Rot of %d: %d", at, e)
		}
	}
}

// ok holds a pointer that a call told to be without an error.
func ok(t *testing.T, what string, p api.Ptr, e api.Errno) api.Ptr {
	t.Helper()
	if e != api.OK {
		t.Fatalf("%s: %d", what, e)
	}
	return p
}

// set sets a cell, which must go well.
func set(t *testing.T, k *bank.Bank, root api.Ptr, i int, b []byte) api.Ptr {
	t.Helper()
	p, e := tree.Set(k, root, i, b)
	return ok(t, "Set", p, e)
}

// point lays a cell's pointer, which must go well.
func point(t *testing.T, k *bank.Bank, root api.Ptr, i int, p api.Ptr) api.Ptr {
	t.Helper()
	q, e := tree.Point(k, root, i, p)
	return ok(t, "Point", q, e)
}

// put puts a block, which must go well.
func put(t *testing.T, k *bank.Bank, b []byte, copies int) api.Ptr {
	t.Helper()
	p, e := k.Put(b, copies)
	return ok(t, "Put", p, e)
}

// full is a tree all of whose cells are set: the cell i to i and 1.
func full(t *testing.T, k *bank.Bank) api.Ptr {
	t.Helper()
	root := hole
	for i := range api.Cells {
		root = set(t, k, root, i, filled(byte(i+1)))
	}
	return root
}

// leaves are the pointers of a root's node, off the disk.
func leaves(t *testing.T, d *disk.Disk, root api.Ptr) [4]api.Ptr {
	t.Helper()
	b, e := d.Read(int(root.At[0]))
	if e != api.OK || summed(b) != root.Hash {
		t.Fatalf("the root %v does not lie there", root)
	}
	var l [4]api.Ptr
	for i := range l {
		rest := b[44*i:]
		copy(l[i].Hash[:], rest)
		l[i].Birth = binary.LittleEndian.Uint32(rest[32:])
		l[i].At = [2]uint32{binary.LittleEndian.Uint32(rest[36:]), binary.LittleEndian.Uint32(rest[40:])}
	}
	return l
}

// makes holds a Make against what it must tell.
func makes(t *testing.T, what string, k *bank.Bank, root api.Ptr, want hashes) {
	t.Helper()
	if m, e := manifest.Make(k, root); e != api.OK || m != want {
		t.Errorf("Make, %s: %d, or another manifest", what, e)
	}
}

// makeTells holds a Make against an error alone.
func makeTells(t *testing.T, what string, k *bank.Bank, root api.Ptr, want api.Errno) {
	t.Helper()
	if m, e := manifest.Make(k, root); e != want || m != (hashes{}) {
		t.Errorf("Make, %s: %d, want the error %d alone", what, e, want)
	}
}

// lacks holds Have and Missing against the cells that are not had.
func lacks(t *testing.T, what string, k *bank.Bank, root api.Ptr, m hashes, want ...int) {
	t.Helper()
	if l := manifest.Missing(k, root, m); !slices.Equal(l, want) {
		t.Errorf("Missing, %s: %v, want %v", what, l, want)
	}
	for i, had := range manifest.Have(k, root, m) {
		if had == slices.Contains(want, i) {
			t.Errorf("Have, %s: of the cell %d: %v", what, i, had)
		}
	}
}

// P11.1, K1: the hash of 256 noughts, as it is published by others.
func TestBlank(t *testing.T) {
	h := manifest.Blank()
	if h != summed(make([]byte, 256)) {
		t.Errorf("Blank: %x", h)
	}
	if hex.EncodeToString(h[:]) != "5341e6b2646979a70e57653007a1f310169421ec9bdd9f1a5648f75ade005af1" {
		t.Errorf("Blank: %x", h)
	}
}

// P11.1, K1, example 1: the manifest of a hole is 16 times Blank.
func TestMakeOfAHole(t *testing.T) {
	k, d := made(t, 16, 7)
	makes(t, "a hole", k, hole, holes())
	lacks(t, "a hole", k, hole, holes())
	m, _ := manifest.Make(k, hole)
	for i, h := range m {
		if h != manifest.Blank() {
			t.Errorf("the cell %d: %x", i, h)
		}
	}
	// A root, and a leaf, that were put as nodes of holes.
	empty := put(t, k, filled(0), 2)
	makes(t, "a node of holes", k, empty, holes())
	node := make([]byte, 256)
	copy(node[44:], empty.Hash[:])
	binary.LittleEndian.PutUint32(node[44+36:], empty.At[0])
	makes(t, "a leaf of holes", k, put(t, k, node, 2), holes())
	if d.Waits() != 4 {
		t.Errorf("%d wait: Make writes", d.Waits())
	}
}

// P11.1, K1: each cell has its own place in the manifest; what was not set is Blank.
func TestMakeOfOneCell(t *testing.T) {
	for i := range api.Cells {
		k, _ := made(t, 16, 7)
		root := set(t, k, hole, i, filled(9))
		want := holes()
		want[i] = summed(filled(9))
		makes(t, "one cell", k, root, want)
		lacks(t, "one cell", k, root, want)
		lacks(t, "one cell, held against holes", k, root, holes(), i)
	}
}

// P11.1, K1, P11.2: of a tree all of whose cells are set, and trimmed one by one; the trees of before have theirs.
func TestMakeOfMany(t *testing.T) {
	k, _ := made(t, 500, 7)
	before := full(t, k)
	makes(t, "all cells", k, before, counted())
	lacks(t, "all cells", k, before, counted())
	root, want := before, counted()
	for i := range api.Cells {
		p, e := tree.Trim(k, root, i*7%16)
		root = ok(t, "Trim", p, e)
		want[i*7%16] = summed(filled(0))
		makes(t, "trimmed", k, root, want)
		lacks(t, "trimmed", k, root, want)
	}
	makes(t, "the tree of before", k, before, counted())
}

// P11.1, K1: a block of noughts that is set counts as a hole does.
func TestMakeOfNoughts(t *testing.T) {
	k, d := made(t, 64, 7)
	root := set(t, k, hole, 3, filled(0))
	if root == hole {
		t.Fatal("noughts are a hole")
	}
	makes(t, "noughts", k, root, holes())
	lacks(t, "noughts", k, root, holes())
	p, e := tree.Find(k, root, 3)
	rot(t, d, ok(t, "Find", p, e))
	makes(t, "noughts that rotted", k, root, holes())
	lacks(t, "noughts that rotted", k, root, holes(), 3)
}

// P11.1, K1: a cell's hash is its pointer's, also of one that is absent, leads nowhere, or has no hash: only noughts are a hole.
func TestMakeByPointers(t *testing.T) {
	h := summed(filled(3))
	for _, p := range []api.Ptr{
		{Hash: h}, {Hash: h, Birth: 5}, {Hash: h, At: [2]uint32{400, 0}},
		{Hash: h, Birth: math.MaxUint32, At: [2]uint32{math.MaxUint32, 1}},
		{Birth: 1}, {At: [2]uint32{1, 0}}, {At: [2]uint32{2, 3}},
		{Hash: summed(filled(0))}, {Hash: [32]byte{31: 1}},
	} {
		for i := range api.Cells {
			k, _ := made(t, 64, 7)
			root := point(t, k, set(t, k, hole, 6, filled(1)), i, p)
			want := holes()
			want[6] = summed(filled(1))
			want[i] = p.Hash
			makes(t, "a pointer", k, root, want)
			lacks(t, "a pointer that leads nowhere", k, root, want, i)
		}
	}
}

// P11.1, K1: no cell is read: what rotted in the cells does not change the manifest.
func TestMakeReadsNoCells(t *testing.T) {
	k, d := made(t, 200, 7)
	root := full(t, k)
	for i := range api.Cells {
		p, e := tree.Find(k, root, i)
		rot(t, d, ok(t, "Find", p, e))
		makes(t, "cells that rotted", k, root, counted())
		lacks(t, "cells that rotted", k, root, counted(), all()[:i+1]...)
	}
}

// P11.1, K1: nodes lie twice: one copy may rot.
func TestOneCopyRots(t *testing.T) {
	for copied := range 2 {
		k, d := made(t, 200, 7)
		root := full(t, k)
		d.Flush()
		l := leaves(t, d, root)
		for _, p := range append(l[:], root) {
			d.Rot(int(p.At[copied]), []byte{1})
		}
		makes(t, "one copy of each node", k, root, counted())
		lacks(t, "one copy of each node", k, root, counted())
	}
}

// P11.1, K1, K2: of a root that can't be read, or may not be, or is no node: its error, and no cell is had.
func TestDamagedRoot(t *testing.T) {
	k, d := made(t, 64, 7)
	root := set(t, k, hole, 5, filled(1))
	rot(t, d, root)
	for _, p := range []api.Ptr{root, {Hash: root.Hash}, {Birth: 1}, {Hash: root.Hash, At: [2]uint32{64, 90}}, put(t, k, filled(1), 2)} {
		makeTells(t, "a damaged root", k, p, api.ErrDamaged)
		lacks(t, "a damaged root", k, p, holes(), all()...)
	}
	for _, p := range []api.Ptr{{At: [2]uint32{0, 1}}, {Hash: root.Hash, Birth: 7, At: [2]uint32{4, 4}}} {
		makeTells(t, "a root that may not be", k, p, api.ErrArg)
		lacks(t, "a root that may not be", k, p, holes(), all()...)
	}
}

// P11.1, K1, K2: of a leaf that can't be read: its error, and nothing beside it; its four cells are not had, and the others are.
func TestDamagedLeaf(t *testing.T) {
	for leaf := range 4 {
		k, d := made(t, 200, 7)
		root := full(t, k)
		rot(t, d, leaves(t, d, root)[leaf])
		makeTells(t, "a damaged leaf", k, root, api.ErrDamaged)
		lacks(t, "a damaged leaf", k, root, counted(), all()[4*leaf:4*leaf+4]...)
		lacks(t, "a damaged leaf, held against noughts", k, root, hashes{}, all()...)
	}
}

// P11.1, R1: without power, or without a bank, a disk: ErrDown, and no cell is had, not even of a hole.
func TestDown(t *testing.T) {
	k, d := made(t, 200, 7)
	root := full(t, k)
	d.Flush()
	cut(d)
	for _, k := range []*bank.Bank{k, nil, {}, bank.Over(nil, k.Map(), 7), bank.Over(d, nil, 7)} {
		for _, p := range []api.Ptr{root, hole, {At: [2]uint32{0, 1}}} {
			makeTells(t, "no power", k, p, api.ErrDown)
			for _, m := range []hashes{counted(), holes(), {}} {
				lacks(t, "no power", k, p, m, all()...)
			}
		}
	}
	d.Crash(nil)
	makes(t, "power again", k, root, counted())
	lacks(t, "power again", k, root, counted())
	makes(t, "no map", bank.Over(d, nil, 90), root, counted())
	lacks(t, "no map", bank.Over(d, nil, 90), root, counted())
}

// P11.1, K2: a cell is had only if its block has the manifest's hash, wherever one bit of that is another.
func TestHaveAsksForTheHash(t *testing.T) {
	for i := range api.Cells {
		k, _ := made(t, 200, 7)
		root := full(t, k)
		for bit := i; bit < 256; bit += 5 {
			m := counted()
			m[i][bit/8] ^= 1 << (bit % 8)
			lacks(t, "another hash", k, root, m, i)
		}
		m := counted()
		m[i], m[(i+1)%16] = m[(i+1)%16], m[i]
		lacks(t, "two hashes changed about", k, root, m, slices.Sorted(slices.Values([]int{i, (i + 1) % 16}))...)
		m = counted()
		m[i] = summed(filled(0))
		lacks(t, "a block where a hole must be", k, root, m, i)
		p, e := tree.Trim(k, root, i)
		trimmed := ok(t, "Trim", p, e)
		lacks(t, "a hole where a block must be", k, trimmed, counted(), i)
		lacks(t, "a hole where one must be", k, trimmed, m)
		m[i] = [32]byte{}
		lacks(t, "a hole has another hash than noughts", k, trimmed, m, i)
	}
}

// P11.1, K2: the block is what counts, not where it lies, nor what else the tree has.
func TestHaveOfAnotherTree(t *testing.T) {
	k, d := made(t, 200, 7)
	full(t, k)
	later := bank.Over(d, k.Map(), 9)
	other := hole
	for _, i := range []int{15, 3, 8} {
		other = point(t, later, other, i, put(t, later, filled(byte(i+1)), 2))
	}
	lacks(t, "another tree", k, other, counted(), all(3, 8, 15)...)
	p, e := tree.Find(k, other, 8)
	d.Flush()
	d.Rot(int(ok(t, "Find", p, e).At[0]), []byte{1})
	lacks(t, "one of a cell's two copies rotted", k, other, counted(), all(3, 8, 15)...)
	d.Rot(int(p.At[1]), []byte{1})
	lacks(t, "both rotted", k, other, counted(), all(3, 15)...)
	if _, e := k.Fix(p, filled(9)); e != api.OK {
		t.Fatalf("Fix: %d", e)
	}
	lacks(t, "fixed", k, other, counted(), all(3, 8, 15)...)
}

// P11.1: nothing is written, and the map stays, whatever is asked.
func TestReadsOnly(t *testing.T) {
	k, d := made(t, 200, 7)
	root := full(t, k)
	p, e := tree.Find(k, root, 5)
	rot(t, d, ok(t, "Find", p, e))
	was, on := k.Map().Bytes(), d.Dump()
	d.Fuse(0)
	makes(t, "a spent fuse", k, root, counted())
	lacks(t, "a spent fuse", k, root, counted(), 5)
	if d.Waits() != 0 || !bytes.Equal(d.Dump(), on) || !bytes.Equal(k.Map().Bytes(), was) {
		t.Error("something changed")
	}
}

// byChance is a manifest of random bytes.
func byChance(r *rand.Rand) hashes {
	var m hashes
	for i := range m {
		r.Read(m[i][:])
	}
	return m
}

// P11.1, K1: the hashes, one behind the other, 512 bytes; and back.
func TestEncode(t *testing.T) {
	r := rand.New(rand.NewSource(1))
	for n := range 100 {
		m := byChance(r)
		if n == 0 {
			m = hashes{}
		}
		var want []byte
		for i := range m {
			want = append(want, m[i][:]...)
		}
		b := manifest.Encode(m)
		if len(b) != 512 || !bytes.Equal(b, want) {
			t.Fatalf("Encode: %x", b)
		}
		if back, e := manifest.Decode(b); e != api.OK || back != m {
			t.Fatalf("Decode: %d, or another manifest", e)
		}
	}
}

// P11.1, K1: any 512 bytes are a manifest, and are written as they were.
func TestDecode(t *testing.T) {
	r := rand.New(rand.NewSource(2))
	for range 100 {
		b := make([]byte, 512)
		r.Read(b)
		m, e := manifest.Decode(b)
		if e != api.OK || !bytes.Equal(manifest.Encode(m), b) {
			t.Fatalf("Decode: %d, or another manifest", e)
		}
		for i := range m {
			if !bytes.Equal(m[i][:], b[32*i:32*i+32]) {
				t.Fatalf("the hash %d is %x", i, m[i])
			}
		}
	}
}

// P11.1, K1: ErrForm of any other length.
func TestDecodeOfWrongLengths(t *testing.T) {
	room := bytes.Repeat([]byte{7}, 2000)
	for n := range 2000 {
		if n == 512 {
			continue
		}
		if m, e := manifest.Decode(room[:n]); e != api.ErrForm || m != (hashes{}) {
			t.Errorf("Decode of %d bytes: %d", n, e)
		}
	}
	if m, e := manifest.Decode(nil); e != api.ErrForm || m != (hashes{}) {
		t.Errorf("Decode of nil: %d", e)
	}
}

// combined is the hash of a list of hashes by the words of chapter 2, with the first half looked for from below.
func combined(l [][32]byte) [32]byte {
	if len(l) == 1 {
		return l[0]
	}
	half := 1
	for half*2 < len(l) {
		half *= 2
	}
	left, right := combined(l[:half]), combined(l[half:])
	return summed(append(left[:], right[:]...))
}

// P11.1, K2: one hash of all, and of each range.
func TestDigestAndRange(t *testing.T) {
	r := rand.New(rand.NewSource(3))
	for range 20 {
		m := byChance(r)
		if h := manifest.Digest(m); h != combined(m[:]) {
			t.Errorf("Digest: %x", h)
		}
		for lo := range api.Cells {
			for hi := lo + 1; hi <= api.Cells; hi++ {
				if h, e := manifest.Range(m, lo, hi); e != api.OK || h != combined(m[lo:hi]) {
					t.Errorf("Range of %d to %d: %x, %d", lo, hi, h, e)
				}
			}
			if h, e := manifest.Range(m, lo, lo+1); e != api.OK || h != m[lo] {
				t.Errorf("Range of %d alone: %x, %d", lo, h, e)
			}
		}
		if h, e := manifest.Range(m, 0, 16); e != api.OK || h != manifest.Digest(m) {
			t.Errorf("Range of all: %x, %d", h, e)
		}
	}
}

// P11.1, K2: each hash counts, and its place.
func TestDigestOfEachHash(t *testing.T) {
	whole := manifest.Digest(counted())
	for i := range api.Cells {
		m := counted()
		m[i][i] ^= 1
		if manifest.Digest(m) == whole {
			t.Errorf("the hash %d does not count", i)
		}
		m = counted()
		m[i], m[(i+5)%16] = m[(i+5)%16], m[i]
		if manifest.Digest(m) == whole {
			t.Errorf("the place %d does not count", i)
		}
	}
}

// P11.1, K2, R7: ErrArg of all other ends.
func TestRangeOfWrongEnds(t *testing.T) {
	ends := []int{math.MinInt, math.MinInt + 1, -1 << 40, -17, -16, -2, 17, 18, 32, 1 << 40, math.MaxInt - 1, math.MaxInt}
	for i := -1; i <= api.Cells+1; i++ {
		ends = append(ends, i)
	}
	for _, lo := range ends {
		for _, hi := range ends {
			if 0 <= lo && lo < hi && hi <= 16 {
				continue
			}
			if h, e := manifest.Range(counted(), lo, hi); e != api.ErrArg || h != [32]byte{} {
				t.Errorf("Range of %d to %d: %x, %d", lo, hi, h, e)
			}
		}
	}
}

// volume is a tree, and what its cells must have.
type volume struct {
	root api.Ptr
	want hashes
}

// step sets, trims or points one cell by chance.
func step(t *testing.T, r *rand.Rand, k *bank.Bank, v volume) volume {
	t.Helper()
	i, from := r.Intn(16), r.Intn(16)
	switch r.Intn(4) {
	case 0:
		p, e := tree.Trim(k, v.root, i)
		return volume{ok(t, "Trim", p, e), with(v.want, i, summed(filled(0)))}
	case 1:
		p, e := tree.Find(k, v.root, from)
		return volume{point(t, k, v.root, i, ok(t, "Find", p, e)), with(v.want, i, v.want[from])}
	default:
		b := filled(byte(r.Intn(4)))
		return volume{set(t, k, v.root, i, b), with(v.want, i, summed(b))}
	}
}

// with is a manifest with another hash of one cell.
func with(m hashes, i int, h [32]byte) hashes {
	m[i] = h
	return m
}

// lost are the cells of a manifest that can't be had, by what Get tells.
func lost(k *bank.Bank, root api.Ptr, m hashes) []int {
	var out []int
	for i := range m {
		if b, e := tree.Get(k, root, i); e != api.OK || summed(b) != m[i] {
			out = append(out, i)
		}
	}
	return out
}

// P11.2: of random trees, each of which has all cells of its manifest till something rots; then those that can't be read are missing.
func TestScripts(t *testing.T) {
	for seed := range int64(8) {
		r := rand.New(rand.NewSource(seed))
		k, d := made(t, 500, 1)
		kept := []volume{{want: holes()}}
		for k.Map().Free() >= 5 {
			v := step(t, r, k, kept[r.Intn(len(kept))])
			kept = append(kept, v)
			makes(t, "a script", k, v.root, v.want)
			lacks(t, "a script", k, v.root, v.want)
			other := kept[r.Intn(len(kept))]
			lacks(t, "a script, another tree's", k, v.root, other.want, lost(k, v.root, other.want)...)
		}
		d.Flush()
		for _, v := range kept {
			makes(t, "behind a script", k, v.root, v.want)
			lacks(t, "behind a script", k, v.root, v.want)
		}
		for range 60 {
			d.Rot(r.Intn(500), []byte{byte(1 + r.Intn(255))})
			v := kept[r.Intn(len(kept))]
			lacks(t, "rot", k, v.root, v.want, lost(k, v.root, v.want)...)
			if _, whole := tree.Walk(k, v.root); whole {
				makes(t, "rot in cells alone", k, v.root, v.want)
			} else {
				makeTells(t, "rot in nodes", k, v.root, api.ErrDamaged)
			}
		}
	}
}

// R4: what is handed in, and the room behind it, stays, and is not kept.
func TestArgumentsStay(t *testing.T) {
	m := counted()
	room := append(manifest.Encode(m), 77, 77, 77)
	was := bytes.Clone(room)
	got, e := manifest.Decode(room[:512])
	if e != api.OK || got != m || !bytes.Equal(room, was) {
		t.Errorf("Decode: %d, or what was handed in is another", e)
	}
	clear(room)
	if got != m {
		t.Error("what was handed in is kept")
	}
}

// R4, R5: answers are new memory, their spare room too, and the same again.
func TestAnswersAreApart(t *testing.T) {
	m := counted()
	a, b := manifest.Encode(m), manifest.Encode(m)
	clear(a[:cap(a)])
	if back, e := manifest.Decode(b); e != api.OK || back != m {
		t.Error("two answers of Encode share memory")
	}
	k, _ := made(t, 64, 7)
	root := set(t, k, hole, 5, filled(1))
	l := manifest.Missing(k, root, counted())
	clear(l[:cap(l)])
	lacks(t, "an answer was changed", k, root, counted(), all()...)
	h := manifest.Have(k, root, holes())
	h[5] = true
	lacks(t, "an answer was changed", k, root, holes(), 5)
}
