package tree_test

import (
	"bytes"
	"crypto/sha256"
	"encoding/binary"
	"math"
	"math/rand"
	"slices"
	"testing"

	"cautery/api"
	"cautery/bank"
	"cautery/disk"
	"cautery/space"
	"cautery/tree"
)

// hole is the pointer of noughts.
var hole api.Ptr

// filled is a block of one byte.
func filled(c byte) []byte { return bytes.Repeat([]byte{c}, api.Sector) }

// made is a bank over a new disk and a new map.
func made(t *testing.T, n int, txg uint32) (*bank.Bank, *disk.Disk) {
	t.Helper()
	d, e := disk.New(n)
	m, f := space.New(n)
	if e != api.OK || f != api.OK {
		t.Fatalf("a disk and a map of %d: %d, %d", n, e, f)
	}
	return bank.Over(d, m, txg), d
}

// cut takes a disk's power.
func cut(d *disk.Disk) {
	d.Fuse(0)
	d.Flush()
}

// rot spoils both copies of a pointer.
func rot(t *testing.T, d *disk.Disk, p api.Ptr) {
	t.Helper()
	d.Flush()
	for _, at := range p.At {
		if e := d.Rot(int(at), []byte{0, 128}); at != 0 && e != api.OK {
			t.Fatalf("Rot of %d: %d", at, e)
		}
	}
}

// ok holds a root that a call told to be without an error.
func ok(t *testing.T, what string, p api.Ptr, e api.Errno) api.Ptr {
	t.Helper()
	if e != api.OK {
		t.Fatalf("%s: %d", what, e)
	}
	return p
}

// set sets a cell, which must go well.
func set(t *testing.T, k *bank.Bank, root api.Ptr, i int, b []byte) api.Ptr {
	t.Helper()
	p, e := tree.Set(k, root, i, b)
	return ok(t, "Set", p, e)
}

// trim trims a cell, which must go well.
func trim(t *testing.T, k *bank.Bank, root api.Ptr, i int) api.Ptr {
	t.Helper()
	p, e := tree.Trim(k, root, i)
	return ok(t, "Trim", p, e)
}

// point lays a cell's pointer, which must go well.
func point(t *testing.T, k *bank.Bank, root api.Ptr, i int, p api.Ptr) api.Ptr {
	t.Helper()
	q, e := tree.Point(k, root, i, p)
	return ok(t, "Point", q, e)
}

// put puts a block, which must go well.
func put(t *testing.T, k *bank.Bank, b []byte, copies int) api.Ptr {
	t.Helper()
	p, e := k.Put(b, copies)
	return ok(t, "Put", p, e)
}

// full is a tree all of whose cells are set: the cell i to i and 1.
func full(t *testing.T, k *bank.Bank) api.Ptr {
	t.Helper()
	root := hole
	for i := range api.Cells {
		root = set(t, k, root, i, filled(byte(i+1)))
	}
	return root
}

// written is a node's bytes, by the library.
func written(l [4]api.Ptr) []byte {
	var b []byte
	for _, p := range l {
		b = append(b, p.Hash[:]...)
		for _, n := range [3]uint32{p.Birth, p.At[0], p.At[1]} {
			b = binary.LittleEndian.AppendUint32(b, n)
		}
	}
	return append(b, make([]byte, api.Sector-len(b))...)
}

// putNode puts a node of one's own.
func putNode(t *testing.T, k *bank.Bank, l [4]api.Ptr) api.Ptr {
	t.Helper()
	return put(t, k, written(l), 2)
}

// nodes reads what a node holds off the disk, by the library: of a hole, holes.
func nodes(t *testing.T, d *disk.Disk, p api.Ptr) [4]api.Ptr {
	t.Helper()
	var l [4]api.Ptr
	if p == hole {
		return l
	}
	b, e := d.Read(int(p.At[0]))
	c, f := d.Read(int(p.At[1]))
	if e != api.OK || f != api.OK || !bytes.Equal(b, c) || sha256.Sum256(b) != p.Hash {
		t.Fatalf("the node of %v does not lie there twice", p)
	}
	for i := range l {
		rest := b[44*i : 44*i+44]
		copy(l[i].Hash[:], rest)
		l[i].Birth = binary.LittleEndian.Uint32(rest[32:])
		l[i].At = [2]uint32{binary.LittleEndian.Uint32(rest[36:]), binary.LittleEndian.Uint32(rest[40:])}
	}
	if !bytes.Equal(written(l), b) {
		t.Fatalf("the node of %v is no node", p)
	}
	return l
}

// cells reads all cells' pointers off the disk.
func cells(t *testing.T, d *disk.Disk, root api.Ptr) [16]api.Ptr {
	t.Helper()
	var out [16]api.Ptr
	for i, leaf := range nodes(t, d, root) {
		l := nodes(t, d, leaf)
		copy(out[4*i:], l[:])
	}
	return out
}

// finds holds a Find against what it must tell.
func finds(t *testing.T, what string, k *bank.Bank, root api.Ptr, i int, p api.Ptr, want api.Errno) {
	t.Helper()
	if got, e := tree.Find(k, root, i); got != p || e != want {
		t.Errorf("Find of %d, %s: %v, %d, want %v, %d", i, what, got, e, p, want)
	}
}

// gets holds a Get against a block.
func gets(t *testing.T, what string, k *bank.Bank, root api.Ptr, i int, b []byte) {
	t.Helper()
	if got, e := tree.Get(k, root, i); e != api.OK || !bytes.Equal(got, b) {
		t.Errorf("Get of %d, %s: %d, %v", i, what, e, got)
	}
}

// getTells holds a Get against an error alone.
func getTells(t *testing.T, what string, k *bank.Bank, root api.Ptr, i int, want api.Errno) {
	t.Helper()
	if b, e := tree.Get(k, root, i); len(b) != 0 || e != want {
		t.Errorf("Get of %d, %s: %v, %d, want the error %d alone", i, what, b, e, want)
	}
}

// diffs holds a Diff, both ways round, against what it must tell.
func diffs(t *testing.T, what string, k *bank.Bank, a, b api.Ptr, want ...int) {
	t.Helper()
	for range 2 {
		if l, e := tree.Diff(k, a, b); e != api.OK || !slices.Equal(l, want) {
			t.Errorf("Diff, %s: %v, %d, want %v", what, l, e, want)
		}
		a, b = b, a
	}
}

// diffTells holds a Diff against an error alone.
func diffTells(t *testing.T, what string, k *bank.Bank, a, b api.Ptr, want api.Errno) {
	t.Helper()
	if l, e := tree.Diff(k, a, b); len(l) != 0 || e != want {
		t.Errorf("Diff, %s: %v, %d, want the error %d alone", what, l, e, want)
	}
}

// walks holds a Walk against what it must tell.
func walks(t *testing.T, what string, k *bank.Bank, root api.Ptr, whole bool, want ...api.Ptr) {
	t.Helper()
	if l, w := tree.Walk(k, root); w != whole || !slices.Equal(l, want) {
		t.Errorf("Walk, %s: %d pointers, %v, want %d, %v", what, len(l), w, len(want), whole)
	}
}

// stays runs what must tell an error alone, and holds that the map is as it was and that so many writes more wait.
func stays(t *testing.T, what string, k *bank.Bank, d *disk.Disk, want api.Errno, waits int, f func() (api.Ptr, api.Errno)) {
	t.Helper()
	was, had := k.Map().Bytes(), d.Waits()
	if p, e := f(); p != hole || e != want {
		t.Errorf("%s: %v, %d, want the error %d alone", what, p, e, want)
	}
	if !bytes.Equal(k.Map().Bytes(), was) {
		t.Errorf("%s: the map is another", what)
	}
	if d.Waits() != had+waits {
		t.Errorf("%s: %d wait more, not %d", what, d.Waits()-had, waits)
	}
}

// tells holds all calls that follow a way to one cell against an error alone.
func tells(t *testing.T, what string, k *bank.Bank, d *disk.Disk, root api.Ptr, i int, want api.Errno) {
	t.Helper()
	finds(t, what, k, root, i, hole, want)
	getTells(t, what, k, root, i, want)
	for _, b := range [][]byte{filled(1), nil, make([]byte, 255)} {
		stays(t, "Set, "+what, k, d, want, 0, func() (api.Ptr, api.Errno) { return tree.Set(k, root, i, b) })
	}
	stays(t, "Trim, "+what, k, d, want, 0, func() (api.Ptr, api.Errno) { return tree.Trim(k, root, i) })
	for _, p := range []api.Ptr{hole, {Birth: 1}, {Birth: 1, At: [2]uint32{9, 4}}} {
		stays(t, "Point, "+what, k, d, want, 0, func() (api.Ptr, api.Errno) { return tree.Point(k, root, i, p) })
	}
}

// wrong are pointers that may not be.
func wrong() []api.Ptr {
	h := sha256.Sum256(filled(1))
	return []api.Ptr{
		{At: [2]uint32{0, 1}},
		{Hash: h, Birth: 7, At: [2]uint32{0, math.MaxUint32}},
		{Hash: h, Birth: 7, At: [2]uint32{4, 4}},
		{At: [2]uint32{9, 9}},
	}
}

// noNodes are blocks that are no node.
func noNodes() [][]byte {
	second := written([4]api.Ptr{{Birth: 1, At: [2]uint32{4, 5}}, {At: [2]uint32{0, 1}}})
	fourth := written([4]api.Ptr{3: {At: [2]uint32{8, 8}}})
	behind := make([]byte, 256)
	behind[176] = 1
	last := written([4]api.Ptr{3: {Birth: 1, At: [2]uint32{4, 5}}})
	last[255] = 1
	return [][]byte{second, fourth, behind, last, filled(1)}
}

// P9.1, I1: a hole has 16 holes.
func TestHole(t *testing.T) {
	k, d := made(t, 16, 7)
	d.Fuse(0)
	for i := range api.Cells {
		finds(t, "a hole", k, hole, i, hole, api.OK)
		gets(t, "a hole", k, hole, i, make([]byte, 256))
	}
	if d.Waits() != 0 || k.Map().Free() != 12 {
		t.Error("reading writes")
	}
}

// P9.1, I1, I2, R7: ErrArg of a cell that there is not, ahead of all other errors.
func TestNoSuchCell(t *testing.T) {
	k, d := made(t, 64, 7)
	root := set(t, k, hole, 5, filled(1))
	bad := set(t, k, hole, 5, filled(2))
	rot(t, d, bad)
	for _, i := range []int{math.MinInt, -16, -5, -1, 16, 17, 20, 32, math.MaxInt} {
		for _, p := range []api.Ptr{hole, root, bad, wrong()[0]} {
			tells(t, "no such cell", k, d, p, i, api.ErrArg)
			tells(t, "no such cell and no bank", nil, nil, p, i, api.ErrArg)
		}
	}
	cut(d)
	tells(t, "no such cell and no power", k, d, root, 16, api.ErrArg)
	tells(t, "no such cell and no power", k, d, root, -1, api.ErrArg)
}

// P9.1, I1, I2, R1: without power, or without a bank, ErrDown.
func TestDown(t *testing.T) {
	k, d := made(t, 64, 7)
	root := set(t, k, hole, 5, filled(1))
	other := set(t, k, root, 6, filled(1))
	d.Flush()
	cut(d)
	for _, k := range []*bank.Bank{k, nil, bank.Over(nil, k.Map(), 7), bank.Over(d, nil, 7)} {
		for i := range api.Cells {
			tells(t, "no power", k, d, root, i, api.ErrDown)
			tells(t, "no power, a hole", k, d, hole, i, api.ErrDown)
			tells(t, "no power, a pointer that may not be", k, d, wrong()[0], i, api.ErrDown)
		}
		diffTells(t, "no power", k, root, other, api.ErrDown)
		diffTells(t, "no power", k, root, hole, api.ErrDown)
		diffTells(t, "no power", k, hole, root, api.ErrDown)
		diffs(t, "no power, the same", k, root, root)
		walks(t, "no power", k, root, false, root)
		walks(t, "no power, a hole", k, hole, true)
	}
	d.Crash(nil)
	gets(t, "power again", k, root, 5, filled(1))
}

// P9.1, I2, example 1, and P9.3: a cell in a hole: its block once, then a leaf with one pointer twice, then a root with one pointer twice.
func TestSetInAHole(t *testing.T) {
	for _, txg := range []uint32{0, 1, 7, math.MaxUint32} {
		for i := range api.Cells {
			k, d := made(t, 16, txg)
			b := filled(byte(i))
			p := api.Ptr{Hash: sha256.Sum256(b), Birth: txg, At: [2]uint32{4, 0}}
			var leaf, root [4]api.Ptr
			leaf[i%4] = p
			root[i/4] = api.Ptr{Hash: sha256.Sum256(written(leaf)), Birth: txg, At: [2]uint32{5, 6}}
			want := api.Ptr{Hash: sha256.Sum256(written(root)), Birth: txg, At: [2]uint32{7, 8}}
			if got := set(t, k, hole, i, b); got != want {
				t.Fatalf("Set of %d: %v, want %v", i, got, want)
			}
			if d.Waits() != 5 || k.Map().Free() != 7 {
				t.Errorf("%d wait, %d are free", d.Waits(), k.Map().Free())
			}
			if nodes(t, d, want) != root || nodes(t, d, root[i/4]) != leaf {
				t.Error("the nodes are others")
			}
			for j := range api.Cells {
				if j != i {
					finds(t, "not set", k, want, j, hole, api.OK)
					gets(t, "not set", k, want, j, make([]byte, 256))
				}
			}
			finds(t, "set", k, want, i, p, api.OK)
			gets(t, "set", k, want, i, b)
		}
	}
}

// P9.1, I2: a block of noughts that is set is a block, not a hole.
func TestSetOfNoughts(t *testing.T) {
	k, _ := made(t, 64, 0)
	root := set(t, k, hole, 3, make([]byte, 256))
	if root == hole {
		t.Error("noughts are a hole")
	}
	gets(t, "noughts", k, root, 3, make([]byte, 256))
	if trim(t, k, root, 3) != hole {
		t.Error("noughts are not trimmed")
	}
}

// P9.2, P9.3: what is not on the way stays, with its births; what is put bears the bank's number; the tree of before stays.
func TestSetKeepsTheRest(t *testing.T) {
	k, d := made(t, 300, 7)
	before := full(t, k)
	was := cells(t, d, before)
	later := bank.Over(d, k.Map(), 9)
	for i := range api.Cells {
		after := set(t, later, before, i, filled(99))
		x, y := nodes(t, d, before), nodes(t, d, after)
		for leaf := range x {
			if leaf == i/4 && (y[leaf].Birth != 9 || y[leaf] == x[leaf]) || leaf != i/4 && y[leaf] != x[leaf] {
				t.Errorf("Set of %d: the leaf %d is %v, was %v", i, leaf, y[leaf], x[leaf])
			}
		}
		want := was
		want[i] = api.Ptr{Hash: sha256.Sum256(filled(99)), Birth: 9, At: [2]uint32{after.At[0] - 3}}
		if after.Birth != 9 || cells(t, d, after) != want || cells(t, d, before) != was {
			t.Errorf("Set of %d: other cells", i)
		}
		diffs(t, "one cell", k, before, after, i)
	}
	for i := range api.Cells {
		gets(t, "the tree of before", k, before, i, filled(byte(i+1)))
	}
}

// P9.1, I2: ErrArg of a block that has not 256 bytes, behind the errors of reading, ahead of those of room.
func TestSetOfNoBlock(t *testing.T) {
	for _, free := range []bool{true, false} {
		k, d := made(t, 32, 7)
		root := set(t, k, hole, 5, filled(1))
		for !free && k.Map().Free() > 0 {
			k.Map().Take(1)
		}
		d.Fuse(1)
		for _, n := range []int{0, 1, 255, 257, 512} {
			for _, root := range []api.Ptr{root, hole} {
				stays(t, "no block", k, d, api.ErrArg, 0, func() (api.Ptr, api.Errno) { return tree.Set(k, root, 5, make([]byte, n)) })
			}
		}
		if d.Flush() != api.OK {
			t.Error("the fuse was spent")
		}
	}
}

// P9.1, I2: ErrArg of a pointer that may not be, ahead of what reading tells.
func TestPointOfWrong(t *testing.T) {
	k, d := made(t, 32, 7)
	root := set(t, k, hole, 5, filled(1))
	bad := set(t, k, hole, 5, filled(2))
	rot(t, d, bad)
	for _, p := range wrong() {
		for _, r := range []api.Ptr{root, hole, bad} {
			for i := range api.Cells {
				stays(t, "a pointer that may not be", k, d, api.ErrArg, 0, func() (api.Ptr, api.Errno) { return tree.Point(k, r, i, p) })
			}
		}
		stays(t, "and no bank", nil, d, api.ErrArg, 0, func() (api.Ptr, api.Errno) { return tree.Point(nil, root, 1, p) })
	}
	cut(d)
	stays(t, "and no power", k, d, api.ErrArg, 0, func() (api.Ptr, api.Errno) { return tree.Point(k, root, 1, wrong()[0]) })
}

// P9.1, I2: any pointer that may be is laid as it is, also one that is absent, or leads nowhere.
func TestPoint(t *testing.T) {
	h := sha256.Sum256(filled(3))
	for _, p := range []api.Ptr{
		{Hash: h, Birth: 3, At: [2]uint32{9, 0}},
		{Hash: h, Birth: math.MaxUint32, At: [2]uint32{math.MaxUint32, 1}},
		{Hash: h}, {Birth: 1}, {At: [2]uint32{1, 0}}, {At: [2]uint32{2, 3}},
	} {
		for i := range api.Cells {
			k, d := made(t, 300, 7)
			root := point(t, k, hole, i, p)
			if root.At != [2]uint32{6, 7} || root.Birth != 7 || d.Waits() != 4 || k.Map().Free() != 292 {
				t.Errorf("Point in a hole: %v, %d wait", root, d.Waits())
			}
			var want [16]api.Ptr
			want[i] = p
			if cells(t, d, root) != want {
				t.Error("Point in a hole: other cells")
			}
			finds(t, "pointed", k, root, i, p, api.OK)
			before := full(t, k)
			want = cells(t, d, before)
			want[i] = p
			root = point(t, k, before, i, p)
			if cells(t, d, root) != want {
				t.Error("Point in a tree: other cells")
			}
		}
	}
}

// P9.1, I2: Point puts leaf and root anew, though the pointer is there already.
func TestPointOfTheSame(t *testing.T) {
	k, d := made(t, 64, 7)
	root := set(t, k, hole, 5, filled(1))
	p, _ := tree.Find(k, root, 5)
	later := bank.Over(d, k.Map(), 8)
	again := point(t, later, root, 5, p)
	if again.At != [2]uint32{11, 12} || again.Birth != 8 || d.Waits() != 9 {
		t.Errorf("the same: %v, %d wait", again, d.Waits())
	}
	finds(t, "the same", k, again, 5, p, api.OK)
	diffs(t, "the same", k, root, again)
}

// P9.1, I2: a hole laid: what has holes alone is a hole, and is not put.
func TestPointOfAHole(t *testing.T) {
	k, d := made(t, 64, 7)
	d.Fuse(0)
	for i := range api.Cells {
		if point(t, k, hole, i, hole) != hole {
			t.Error("a hole in a hole")
		}
	}
	d.Crash(nil)
	one := set(t, k, hole, 5, filled(1))
	two := set(t, k, one, 6, filled(2))
	three := set(t, k, two, 15, filled(3))
	had, free := d.Waits(), k.Map().Free()
	if point(t, k, one, 5, hole) != hole || d.Waits() != had || k.Map().Free() != free {
		t.Error("the last one: a root is put")
	}
	for _, c := range []struct {
		root api.Ptr
		i    int
		want [16]int // whose block the cell has
		puts int
	}{
		{two, 5, [16]int{6: 2}, 4},
		{three, 15, [16]int{5: 1, 6: 2}, 2},
		{three, 5, [16]int{6: 2, 15: 3}, 4},
		{three, 0, [16]int{5: 1, 6: 2, 15: 3}, 2}, // its leaf is a hole already
		{three, 4, [16]int{5: 1, 6: 2, 15: 3}, 4},
	} {
		had, free := d.Waits(), k.Map().Free()
		root := point(t, k, c.root, c.i, hole)
		if d.Waits() != had+c.puts || k.Map().Free() != free-c.puts || root == c.root || root == hole {
			t.Errorf("a hole at %d: %d wait more, not %d", c.i, d.Waits()-had, c.puts)
		}
		for i, n := range c.want {
			gets(t, "a hole laid", k, root, i, filled(byte(n)))
		}
	}
}

// P9.1, I2: Trim of a hole tells root itself, whatever the cell beside it, and writes nothing.
func TestTrimOfAHole(t *testing.T) {
	k, d := made(t, 64, 7)
	root := set(t, k, set(t, k, hole, 5, filled(1)), 15, filled(2))
	d.Fuse(0)
	for i := range api.Cells {
		if trim(t, k, hole, i) != hole {
			t.Error("of a hole")
		}
		if i != 5 && i != 15 && trim(t, k, root, i) != root {
			t.Errorf("of the cell %d", i)
		}
	}
}

// P9.1, I2: Trim of a cell, one by one, down to a hole.
func TestTrim(t *testing.T) {
	for seed := range int64(5) {
		k, d := made(t, 512, 7)
		root := full(t, k)
		want := cells(t, d, root)
		order := rand.New(rand.NewSource(seed)).Perm(16)
		for n, i := range order {
			had := d.Waits()
			was := root
			root = trim(t, k, root, i)
			want[i] = hole
			if cells(t, d, root) != want {
				t.Errorf("behind %d: other cells", i)
			}
			puts := 4
			if [4]api.Ptr(want[i/4*4:]) == [4]api.Ptr{} {
				puts = 2
			}
			if n == 15 {
				puts = 0
			}
			if d.Waits() != had+puts {
				t.Errorf("behind %d: %d wait more, not %d", i, d.Waits()-had, puts)
			}
			diffs(t, "trimmed", k, was, root, i)
		}
		if root != hole {
			t.Error("without cells it is no hole")
		}
	}
}

// P9.1, I2: an absent cell is no hole: it is trimmed.
func TestTrimOfAbsent(t *testing.T) {
	k, _ := made(t, 64, 7)
	root := point(t, k, hole, 9, api.Ptr{Hash: [32]byte{1}})
	getTells(t, "absent", k, root, 9, api.ErrDamaged)
	if trim(t, k, root, 9) != hole {
		t.Error("an absent cell stays")
	}
}

// P9.1, I2: ErrFull, wherever the room ends: the map is as it was.
func TestNoRoom(t *testing.T) {
	k, d := made(t, 64, 7)
	root := set(t, k, set(t, k, hole, 5, filled(1)), 4, filled(2))
	p, _ := tree.Find(k, root, 5)
	for k.Map().Free() > 5 {
		k.Map().Take(1)
	}
	for free := 5; free >= 0; free-- {
		at := func(puts ...int) int { // how many of these puts there is room for
			n := 0
			for _, c := range puts {
				if n+c > free {
					break
				}
				n += c
			}
			return n
		}
		for _, root := range []api.Ptr{root, hole} {
			if free < 5 {
				stays(t, "Set", k, d, api.ErrFull, at(1, 2, 2), func() (api.Ptr, api.Errno) { return tree.Set(k, root, 5, filled(3)) })
			}
			if free < 4 {
				stays(t, "Point", k, d, api.ErrFull, at(2, 2), func() (api.Ptr, api.Errno) { return tree.Point(k, root, 5, p) })
			}
		}
		if free < 4 {
			stays(t, "Trim", k, d, api.ErrFull, at(2, 2), func() (api.Ptr, api.Errno) { return tree.Trim(k, root, 5) })
		}
		was := k.Map().Copy()
		if free == 5 {
			set(t, k, root, 5, filled(3))
		}
		if free == 4 {
			trim(t, k, root, 5)
		}
		for i := range 64 {
			if !was.Used(i) && k.Map().Used(i) {
				k.Map().Give(uint32(i))
			}
		}
		k.Map().Take(1)
	}
	gets(t, "with no room", k, root, 5, filled(1))
}

// P9.1, I2: the map is given back where other sectors lie between.
func TestNoRoomBetween(t *testing.T) {
	k, d := made(t, 16, 7)
	l, _ := k.Map().Take(8)
	more, _ := k.Map().Take(4)
	for _, i := range []uint32{l[0], l[3], l[7], more[3]} {
		k.Map().Give(i)
	}
	stays(t, "Set", k, d, api.ErrFull, 3, func() (api.Ptr, api.Errno) { return tree.Set(k, hole, 5, filled(3)) })
	k.Map().Give(l[5])
	root := set(t, k, hole, 5, filled(3))
	if root.At != [2]uint32{l[7], more[3]} || k.Map().Free() != 0 {
		t.Errorf("Set: %v", root)
	}
}

// P9.1, I2: the power goes at any write: ErrDown, the map is as it was, and what was written ahead waits.
func TestFuse(t *testing.T) {
	for fuse := range 6 {
		k, d := made(t, 64, 7)
		root := set(t, k, set(t, k, hole, 5, filled(1)), 4, filled(2))
		p, _ := tree.Find(k, root, 5)
		for _, root := range []api.Ptr{root, hole} {
			for name, c := range map[string]struct {
				puts int
				f    func() (api.Ptr, api.Errno)
			}{
				"Set":   {5, func() (api.Ptr, api.Errno) { return tree.Set(k, root, 5, filled(3)) }},
				"Point": {4, func() (api.Ptr, api.Errno) { return tree.Point(k, root, 5, p) }},
				"Trim":  {4, func() (api.Ptr, api.Errno) { return tree.Trim(k, root, 5) }},
			} {
				if name == "Trim" && root == hole {
					continue
				}
				d.Flush()
				d.Fuse(fuse)
				if fuse < c.puts {
					stays(t, name, k, d, api.ErrDown, fuse, c.f)
					stays(t, name+" behind it", k, d, api.ErrDown, 0, c.f)
				} else if q, e := c.f(); e != api.OK || d.Waits() != c.puts {
					t.Errorf("%s: %v, %d, %d wait", name, q, e, d.Waits())
				}
				d.Crash(nil)
			}
		}
		gets(t, "behind the crashes", k, root, 5, filled(1))
	}
}

// P9.1, I2, R1: what a bank without a map, or with one that is longer than its disk, tells.
func TestOddMaps(t *testing.T) {
	d, _ := disk.New(16)
	none := bank.Over(d, nil, 7)
	finds(t, "no map", none, hole, 3, hole, api.OK)
	stays(t, "no map", none, d, api.ErrArg, 0, func() (api.Ptr, api.Errno) { return tree.Set(none, hole, 3, filled(1)) })
	stays(t, "no map", none, d, api.ErrArg, 0, func() (api.Ptr, api.Errno) { return tree.Point(none, hole, 3, api.Ptr{Birth: 1}) })
	m, _ := space.New(32)
	for m.Free() > 19 {
		m.Take(1)
	}
	long := bank.Over(d, m, 7)
	stays(t, "a long map", long, d, api.ErrArg, 3, func() (api.Ptr, api.Errno) { return tree.Set(long, hole, 3, filled(1)) })
}

// P9.1, I1, I2: of a root that can't be read, or is no node, no cell is told; nothing is put.
func TestDamagedRoot(t *testing.T) {
	k, d := made(t, 64, 7)
	root := set(t, k, hole, 5, filled(1))
	rot(t, d, root)
	for _, p := range []api.Ptr{root, {Hash: root.Hash}, {Birth: 1}, {Hash: root.Hash, At: [2]uint32{64, 90}}} {
		for i := range api.Cells {
			tells(t, "a damaged root", k, d, p, i, api.ErrDamaged)
		}
		walks(t, "a damaged root", k, p, false, p)
	}
	for _, b := range noNodes() {
		p := put(t, k, b, 2)
		for i := range api.Cells {
			tells(t, "no node", k, d, p, i, api.ErrDamaged)
		}
		walks(t, "no node", k, p, false, p)
	}
	for _, p := range wrong() {
		for i := range api.Cells {
			tells(t, "a root that may not be", k, d, p, i, api.ErrArg)
		}
		walks(t, "a root that may not be", k, p, false, p)
	}
}

// P9.1, I1, I2: of a leaf that can't be read, or is no node, its four cells aren't told, and the others are.
func TestDamagedLeaf(t *testing.T) {
	for leaf := range 4 {
		k, d := made(t, 512, 7)
		root := full(t, k)
		l := nodes(t, d, root)
		absent := l
		absent[leaf] = api.Ptr{Hash: l[leaf].Hash, Birth: 7}
		roots := []api.Ptr{root, putNode(t, k, absent)}
		for _, b := range noNodes() {
			other := l
			other[leaf] = put(t, k, b, 2)
			roots = append(roots, putNode(t, k, other))
		}
		rot(t, d, l[leaf])
		for _, root := range roots {
			for i := range api.Cells {
				if i/4 == leaf {
					tells(t, "a damaged leaf", k, d, root, i, api.ErrDamaged)
				} else {
					gets(t, "beside a damaged leaf", k, root, i, filled(byte(i+1)))
				}
			}
			after := set(t, k, root, (leaf+1)%4*4, filled(77))
			gets(t, "set beside a damaged leaf", k, after, (leaf+1)%4*4, filled(77))
			getTells(t, "set beside a damaged leaf", k, after, leaf*4, api.ErrDamaged)
		}
	}
}

// P9.1, I1: each node lies twice: one copy may rot. A cell lies once: then it is found, and not got.
func TestOneCopyRots(t *testing.T) {
	for copied := range 2 {
		k, d := made(t, 200, 7)
		root := full(t, k)
		d.Flush()
		l := nodes(t, d, root)
		for _, p := range append(l[:], root) {
			d.Rot(int(p.At[copied]), []byte{1})
		}
		for i := range api.Cells {
			gets(t, "one copy of each node", k, root, i, filled(byte(i+1)))
		}
		if l, whole := tree.Walk(k, root); len(l) != 21 || !whole {
			t.Errorf("Walk: %d, %v", len(l), whole)
		}
		p, _ := tree.Find(k, root, 6)
		rot(t, d, p)
		finds(t, "a cell rotted", k, root, 6, p, api.OK)
		getTells(t, "a cell rotted", k, root, 6, api.ErrDamaged)
		gets(t, "the one beside it", k, root, 7, filled(8))
		healed := set(t, k, root, 6, filled(70))
		gets(t, "a cell set anew", k, healed, 6, filled(70))
		if l, whole := tree.Walk(k, root); len(l) != 21 || !whole {
			t.Errorf("Walk reads cells: %d, %v", len(l), whole)
		}
	}
}

// P9.1, I3: the cells, in order, whose pointers are unlike.
func TestDiff(t *testing.T) {
	k, d := made(t, 512, 7)
	base := full(t, k)
	diffs(t, "holes", k, hole, hole)
	diffs(t, "the same", k, base, base)
	diffs(t, "a hole", k, hole, base, 0, 1, 2, 3, 4, 5, 6, 7, 8, 9, 10, 11, 12, 13, 14, 15)
	a := trim(t, k, set(t, k, set(t, k, base, 14, filled(40)), 3, filled(41)), 8)
	diffs(t, "three", k, base, a, 3, 8, 14)
	b := set(t, k, set(t, k, base, 3, filled(41)), 0, filled(42))
	diffs(t, "two ways", k, a, b, 0, 3, 8, 14)
	same := set(t, k, base, 5, filled(6))
	diffs(t, "the same bytes elsewhere", k, base, same, 5)
	p, _ := tree.Find(k, base, 5)
	diffs(t, "the same pointer laid again", k, base, point(t, k, base, 5, p))
	diffs(t, "and back", k, base, point(t, k, same, 5, p))
	d.Flush()
	for _, r := range []api.Ptr{a, b, same} {
		l := nodes(t, d, r)
		for _, p := range append(l[:], r) {
			d.Rot(int(p.At[0]), []byte{1})
		}
	}
	diffs(t, "first copies rotted", k, a, b, 0, 3, 8, 14)
}

// P9.1, I3: pointers are unlike, if any of their parts is; they need lead nowhere.
func TestDiffOfParts(t *testing.T) {
	p := api.Ptr{Hash: [32]byte{1}, Birth: 5, At: [2]uint32{8, 9}}
	for _, q := range []api.Ptr{
		{Hash: [32]byte{31: 1}, Birth: 5, At: [2]uint32{8, 9}},
		{Hash: [32]byte{1}, Birth: 6, At: [2]uint32{8, 9}},
		{Hash: [32]byte{1}, Birth: 5, At: [2]uint32{7, 9}},
		{Hash: [32]byte{1}, Birth: 5, At: [2]uint32{8, 0}},
		{Hash: [32]byte{1}, Birth: 5, At: [2]uint32{9, 8}},
		{Hash: [32]byte{1}, Birth: 5}, {},
	} {
		k, _ := made(t, 64, 7)
		diffs(t, "one part", k, point(t, k, hole, 11, p), point(t, k, hole, 11, q), 11)
	}
}

// P9.1, I3: nodes with the same pointer aren't read, wherever they stand.
func TestDiffReadsNotTheSame(t *testing.T) {
	k, d := made(t, 512, 7)
	base := full(t, k)
	other := set(t, k, base, 9, filled(50))
	l := nodes(t, d, base)
	for leaf := range 4 {
		if leaf != 2 {
			rot(t, d, l[leaf])
		}
	}
	diffs(t, "beside damaged leaves", k, base, other, 9)
	rot(t, d, base)
	diffs(t, "a damaged root and itself", k, base, base)
	for _, p := range append(wrong(), api.Ptr{Birth: 1}) {
		diffs(t, "no root and itself", k, p, p)
	}
}

// P9.1, I3: two pointers are the same, if all their parts are: nodes with one hash in two places are both read.
func TestDiffReadsOtherPlaces(t *testing.T) {
	k, d := made(t, 64, 7)
	l := [4]api.Ptr{1: {Birth: 1}}
	leaf, twin, lost := putNode(t, k, l), putNode(t, k, l), putNode(t, k, l)
	rot(t, d, lost)
	root := func(leaf api.Ptr) api.Ptr { return putNode(t, k, [4]api.Ptr{2: leaf}) }
	diffs(t, "twin roots", k, root(leaf), root(leaf))
	diffs(t, "twin leaves", k, root(leaf), root(twin))
	diffTells(t, "a twin is lost", k, leaf, lost, api.ErrDamaged)
	diffTells(t, "a twin is lost", k, lost, leaf, api.ErrDamaged)
	diffTells(t, "a twin leaf is lost", k, root(leaf), root(lost), api.ErrDamaged)
	diffTells(t, "a twin leaf is lost", k, root(lost), root(leaf), api.ErrDamaged)
	older := leaf
	older.Birth = 3
	diffs(t, "another birth", k, root(leaf), root(older))
}

// P9.1, I3: the errors of the nodes that are read, a's first.
func TestDiffTells(t *testing.T) {
	k, d := made(t, 512, 7)
	base := full(t, k)
	other := set(t, k, base, 9, filled(50))
	third := set(t, k, base, 0, filled(51))
	lost := set(t, k, base, 12, filled(52))
	rot(t, d, lost)
	for _, p := range []api.Ptr{base, hole} {
		diffTells(t, "a damaged root", k, lost, p, api.ErrDamaged)
		diffTells(t, "a damaged root", k, p, lost, api.ErrDamaged)
	}
	for _, p := range wrong() {
		diffTells(t, "a's is ErrArg", k, p, lost, api.ErrArg)
		diffTells(t, "a's is damaged", k, lost, p, api.ErrDamaged)
		diffTells(t, "b's alone", k, base, p, api.ErrArg)
		diffTells(t, "a's alone", k, p, base, api.ErrArg)
	}
	for _, b := range noNodes() {
		diffTells(t, "no node", k, put(t, k, b, 2), base, api.ErrDamaged)
		diffTells(t, "no node", k, base, put(t, k, b, 2), api.ErrDamaged)
	}
	rot(t, d, nodes(t, d, other)[2])
	diffTells(t, "a leaf, and a cell unlike ahead of it", k, third, other, api.ErrDamaged)
	diffTells(t, "a leaf, and a cell unlike ahead of it", k, other, third, api.ErrDamaged)
	diffTells(t, "a leaf and a hole", k, hole, other, api.ErrDamaged)
	diffs(t, "leaves that can be read", k, base, third, 0)
}

// P9.1, I3: cells are not read.
func TestDiffReadsNoCells(t *testing.T) {
	k, d := made(t, 512, 7)
	base := full(t, k)
	other := set(t, k, base, 9, filled(50))
	for _, p := range cells(t, d, base) {
		rot(t, d, p)
	}
	diffs(t, "damaged cells", k, base, other, 9)
}

// P9.1, I4: the root, then leaf by leaf, without holes.
func TestWalk(t *testing.T) {
	k, d := made(t, 512, 7)
	walks(t, "a hole", k, hole, true)
	root := full(t, k)
	for step := range 30 {
		want := []api.Ptr{root}
		for _, leaf := range nodes(t, d, root) {
			if leaf == hole {
				continue
			}
			want = append(want, leaf)
			for _, p := range nodes(t, d, leaf) {
				if p != hole {
					want = append(want, p)
				}
			}
		}
		walks(t, "a tree", k, root, true, want...)
		root = trim(t, k, root, step*5%16)
		if root == hole {
			break
		}
	}
}

// P9.1, I4: what lies below a node that can't be read is not told, the others are; the same pointer twice is told twice; absent cells are told.
func TestWalkOfDamage(t *testing.T) {
	k, d := made(t, 512, 7)
	p := api.Ptr{Hash: [32]byte{1}}
	leaf := putNode(t, k, [4]api.Ptr{1: p, 3: p})
	other := putNode(t, k, [4]api.Ptr{2: {Birth: 3}})
	empty := put(t, k, make([]byte, 256), 2)
	lost := api.Ptr{Hash: [32]byte{2}, At: [2]uint32{400, 401}}
	root := putNode(t, k, [4]api.Ptr{leaf, other, leaf, empty})
	walks(t, "twice", k, root, true, root, leaf, p, p, other, api.Ptr{Birth: 3}, leaf, p, p, empty)
	for at, want := range [][]api.Ptr{
		{lost, other, {Birth: 3}, leaf, p, p, empty},
		{leaf, p, p, lost, leaf, p, p, empty},
		{leaf, p, p, other, {Birth: 3}, lost, empty},
		{leaf, p, p, other, {Birth: 3}, leaf, p, p, lost},
	} {
		l := [4]api.Ptr{leaf, other, leaf, empty}
		l[at] = lost
		root := putNode(t, k, l)
		walks(t, "a leaf is lost", k, root, false, append([]api.Ptr{root}, want...)...)
	}
	rot(t, d, other)
	walks(t, "a leaf rotted", k, root, false, root, leaf, p, p, other, leaf, p, p, empty)
	for _, b := range noNodes() {
		none := put(t, k, b, 2)
		root := putNode(t, k, [4]api.Ptr{none, leaf})
		walks(t, "a leaf is no node", k, root, false, root, none, leaf, p, p)
	}
	walks(t, "a root that was put as noughts", k, empty, true, empty)
}

// volume is a tree, and what its cells must have.
type volume struct {
	root api.Ptr
	want [16][]byte
}

// P9.2, P9.3: random scripts over trees, old ones too, on a disk that is swept when it is full.
func TestScripts(t *testing.T) {
	for seed := range int64(20) {
		script(t, rand.New(rand.NewSource(seed)))
	}
}

// script sets, trims and points cells of trees by chance, and holds all trees that are kept against what was laid into them.
func script(t *testing.T, r *rand.Rand) {
	t.Helper()
	k, d := made(t, 150+r.Intn(300), 1)
	kept := []volume{{want: blank()}}
	for txg := range 150 {
		k = bank.Over(d, k.Map(), uint32(txg+1))
		v := kept[r.Intn(len(kept))]
		i := r.Intn(16)
		was, free := v, k.Map().Free()
		root, e := step(t, r, k, &v, i)
		if e == api.ErrFull {
			if k.Map().Free() != free || free >= 5 {
				t.Fatalf("full, with %d free, now %d", free, k.Map().Free())
			}
			kept = kept[len(kept)/2:]
			sweep(t, k, kept)
			continue
		}
		v.root = ok(t, "a step", root, e)
		born(t, d, was.root, v.root, i, k.Txg())
		kept = append(kept, v)
		for _, v := range kept {
			i := r.Intn(16)
			gets(t, "a script", k, v.root, i, v.want[i])
		}
		a, b := kept[r.Intn(len(kept))], kept[r.Intn(len(kept))]
		unlike(t, k, d, a.root, b.root)
	}
	for _, v := range kept {
		for i, b := range v.want {
			gets(t, "behind a script", k, v.root, i, b)
		}
	}
}

// blank is what a hole's cells must have.
func blank() [16][]byte {
	var l [16][]byte
	for i := range l {
		l[i] = make([]byte, 256)
	}
	return l
}

// step does one thing to one cell.
func step(t *testing.T, r *rand.Rand, k *bank.Bank, v *volume, i int) (api.Ptr, api.Errno) {
	t.Helper()
	switch r.Intn(4) {
	case 0:
		v.want[i] = make([]byte, 256)
		return tree.Trim(k, v.root, i)
	case 1:
		from := r.Intn(16)
		p, e := tree.Find(k, v.root, from)
		ok(t, "Find", p, e)
		v.want[i] = v.want[from]
		return tree.Point(k, v.root, i, p)
	default:
		v.want[i] = filled(byte(r.Intn(256)))
		return tree.Set(k, v.root, i, v.want[i])
	}
}

// sweep leaves in the map what the trees that are kept name.
func sweep(t *testing.T, k *bank.Bank, kept []volume) {
	t.Helper()
	var used []uint32
	for _, v := range kept {
		l, whole := tree.Walk(k, v.root)
		if !whole {
			t.Fatal("a tree can't be walked")
		}
		for _, p := range l {
			used = append(used, p.At[:]...)
		}
	}
	k.Map().Keep(used)
}

// born holds that the nodes on the way to a cell are new, and that all else is as it was.
func born(t *testing.T, d *disk.Disk, before, after api.Ptr, i int, txg uint32) {
	t.Helper()
	if before == after {
		return
	}
	x, y := nodes(t, d, before), nodes(t, d, after)
	if after != hole && after.Birth != txg || y[i/4] != hole && y[i/4].Birth != txg {
		t.Fatalf("births %d and %d, not %d", after.Birth, y[i/4].Birth, txg)
	}
	a, b := cells(t, d, before), cells(t, d, after)
	a[i] = b[i]
	x[i/4] = y[i/4]
	if a != b || x != y {
		t.Fatalf("beside the cell %d something changed", i)
	}
}

// unlike holds Diff against the cells' pointers off the disk.
func unlike(t *testing.T, k *bank.Bank, d *disk.Disk, a, b api.Ptr) {
	t.Helper()
	x, y := cells(t, d, a), cells(t, d, b)
	var want []int
	for i := range x {
		if x[i] != y[i] {
			want = append(want, i)
		}
	}
	diffs(t, "a script", k, a, b, want...)
}

// R4: what is handed in, and the room behind it, stays, and is not kept.
func TestArgumentsStay(t *testing.T) {
	k, _ := made(t, 64, 7)
	room := append(filled(3), 77, 77)
	was := bytes.Clone(room)
	root := set(t, k, hole, 5, room[:256])
	if !bytes.Equal(room, was) {
		t.Error("Set changed the block")
	}
	clear(room)
	gets(t, "the block was cleared", k, root, 5, filled(3))
}

// R4: answers are new memory, their spare room too.
func TestAnswersAreApart(t *testing.T) {
	k, _ := made(t, 64, 7)
	root := set(t, k, hole, 5, filled(3))
	for _, i := range []int{5, 6} {
		a, _ := tree.Get(k, root, i)
		was := bytes.Clone(a)
		a = a[:cap(a)]
		for j := range a {
			a[j] ^= 255
		}
		gets(t, "an answer was changed", k, root, i, was)
	}
	l, _ := tree.Walk(k, root)
	m, _ := tree.Walk(k, root)
	clear(l[:cap(l)])
	walks(t, "an answer was changed", k, root, true, m...)
	other := set(t, k, root, 9, filled(3))
	n, _ := tree.Diff(k, root, other)
	clear(n[:cap(n)])
	diffs(t, "an answer was changed", k, root, other, 9)
}

// R5: the same calls on another disk tell the same; a tree hangs on its disk alone.
func TestAnswersHangOnTheDisk(t *testing.T) {
	a, d := made(t, 200, 7)
	b, _ := made(t, 200, 7)
	root := full(t, a)
	if full(t, b) != root {
		t.Error("two disks, two trees")
	}
	other := bank.Over(d, nil, 90)
	for i := range api.Cells {
		gets(t, "by another bank", other, root, i, filled(byte(i+1)))
	}
	apart, _ := made(t, 200, 7)
	getTells(t, "another disk", apart, root, 5, api.ErrDamaged)
}
