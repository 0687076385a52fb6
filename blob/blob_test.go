package blob_test

import (
	"bytes"
	"crypto/sha256"
	"encoding/binary"
	"math"
	"math/rand"
	"slices"
	"testing"

	"cautery/api"
	"cautery/bank"
	"cautery/blob"
	"cautery/disk"
	"cautery/space"
)

// hole is the pointer of noughts.
var hole api.Ptr

// made is a bank over a new disk and a new map.
func made(t *testing.T, n int, txg uint32) (*bank.Bank, *disk.Disk) {
	t.Helper()
	d, e := disk.New(n)
	m, f := space.New(n)
	if e != api.OK || f != api.OK {
		t.Fatalf("a disk and a map of %d: %d, %d", n, e, f)
	}
	return bank.Over(d, m, txg), d
}

// bytesOf are n bytes, none of them 0.
func bytesOf(n int) []byte {
	b := make([]byte, n)
	for i := range b {
		b[i] = byte(1 + i%255)
	}
	return b
}

// cut takes a disk's power.
func cut(d *disk.Disk) {
	d.Fuse(0)
	d.Flush()
}

// rot spoils the copies of a pointer.
func rot(t *testing.T, d *disk.Disk, p api.Ptr, copies ...int) {
	t.Helper()
	d.Flush()
	for _, i := range copies {
		if e := d.Rot(int(p.At[i]), []byte{0, 128}); e != api.OK {
			t.Fatalf("Rot of %d: %d", p.At[i], e)
		}
	}
}

// save saves bytes, which must go well.
func save(t *testing.T, k *bank.Bank, b []byte) api.Ptr {
	t.Helper()
	p, e := blob.Save(k, b)
	if e != api.OK {
		t.Fatalf("Save of %d bytes: %d", len(b), e)
	}
	return p
}

// put puts a block, which must go well.
func put(t *testing.T, k *bank.Bank, b []byte) api.Ptr {
	t.Helper()
	p, e := k.Put(b, 2)
	if e != api.OK {
		t.Fatalf("Put: %d", e)
	}
	return p
}

// padded is bytes with noughts behind them, a block's.
func padded(b []byte) []byte {
	return append(slices.Clone(b), make([]byte, api.Sector-len(b))...)
}

// pointers are pointers as they are written, by the library.
func pointers(l ...api.Ptr) []byte {
	var b []byte
	for _, p := range l {
		b = append(b, p.Hash[:]...)
		for _, n := range [3]uint32{p.Birth, p.At[0], p.At[1]} {
			b = binary.LittleEndian.AppendUint32(b, n)
		}
	}
	return b
}

// headOf is a head's block, by the library.
func headOf(n uint32, nodes ...api.Ptr) []byte {
	return padded(append(binary.LittleEndian.AppendUint32(nil, n), pointers(nodes...)...))
}

// nodeOf is a node's block, by the library.
func nodeOf(l ...api.Ptr) []byte {
	return padded(pointers(l...))
}

// loads holds a Load against bytes.
func loads(t *testing.T, what string, k *bank.Bank, p api.Ptr, want []byte) {
	t.Helper()
	if b, e := blob.Load(k, p); e != api.OK || !bytes.Equal(b, want) {
		t.Errorf("Load, %s: %d bytes, %d, want %d bytes", what, len(b), e, len(want))
	}
}

// loadTells holds a Load against an error alone.
func loadTells(t *testing.T, what string, k *bank.Bank, p api.Ptr, want api.Errno) {
	t.Helper()
	if b, e := blob.Load(k, p); len(b) != 0 || e != want {
		t.Errorf("Load, %s: %d bytes, %d, want the error %d alone", what, len(b), e, want)
	}
}

// walks holds a Walk against what it must tell.
func walks(t *testing.T, what string, k *bank.Bank, p api.Ptr, whole bool, want ...api.Ptr) {
	t.Helper()
	if l, w := blob.Walk(k, p); w != whole || !slices.Equal(l, want) {
		t.Errorf("Walk, %s: %d pointers, %v, want %d, %v", what, len(l), w, len(want), whole)
	}
}

// stays runs a Save that must tell an error alone, and holds that the map is as it was and that so many writes more wait.
func stays(t *testing.T, what string, k *bank.Bank, d *disk.Disk, b []byte, want api.Errno, waits int) {
	t.Helper()
	was, had := k.Map().Bytes(), d.Waits()
	if p, e := blob.Save(k, b); p != hole || e != want {
		t.Errorf("Save, %s: %v, %d, want the error %d alone", what, p, e, want)
	}
	if !bytes.Equal(k.Map().Bytes(), was) {
		t.Errorf("Save, %s: the map is another", what)
	}
	if d.Waits() != had+waits {
		t.Errorf("Save, %s: %d wait more, not %d", what, d.Waits()-had, waits)
	}
}

// lengths are lengths around all at which a blob gets a chunk or a node more.
func lengths() []int {
	var out []int
	for n := 0; n <= api.MaxBlob; n += api.Sector {
		for _, by := range []int{-1, 0, 1, 100} {
			if n+by >= 0 && n+by <= api.MaxBlob {
				out = append(out, n+by)
			}
		}
	}
	return append(out, api.MaxBlob-1, api.MaxBlob)
}

// counts tells how many chunks and nodes n bytes have, counted one by one.
func counts(n int) (chunks, nodes int) {
	for at := 0; at < n; at += 256 {
		if chunks%4 == 0 {
			nodes++
		}
		chunks++
	}
	return chunks, nodes
}

// blocks are the blocks of a blob in the order in which they are put on an empty disk, by the chapter's words, and their pointers.
func blocks(b []byte, txg uint32) ([][]byte, []api.Ptr) {
	var out [][]byte
	var all, nodes []api.Ptr
	lay := func(block []byte) api.Ptr {
		at := uint32(4 + 2*len(out))
		p := api.Ptr{Hash: sha256.Sum256(block), Birth: txg, At: [2]uint32{at, at + 1}}
		out, all = append(out, block), append(all, p)
		return p
	}
	for len(b) > 0 {
		var chunks []api.Ptr
		for len(chunks) < 4 && len(b) > 0 {
			n := min(256, len(b))
			chunks = append(chunks, lay(padded(b[:n])))
			b = b[n:]
		}
		nodes = append(nodes, lay(nodeOf(chunks...)))
	}
	return out, append(all, nodes...)
}

// TestSaveLays: P10.1, J1: all chunks of the first node, that node, and so on, then the head, each twice, as the chapter says.
func TestSaveLays(t *testing.T) {
	for _, n := range lengths() {
		k, d := made(t, 64, 9)
		b := bytesOf(n)
		want, all := blocks(b, 9)
		nodes := all[len(want):]
		want = append(want, headOf(uint32(n), nodes...))
		p := save(t, k, b)
		at := uint32(4 + 2*len(want) - 2)
		if p != (api.Ptr{Hash: sha256.Sum256(want[len(want)-1]), Birth: 9, At: [2]uint32{at, at + 1}}) {
			t.Errorf("Save of %d bytes: %v", n, p)
		}
		if d.Waits() != 2*len(want) {
			t.Errorf("Save of %d bytes: %d writes, want %d", n, d.Waits(), 2*len(want))
		}
		for i, block := range want {
			for copied := range 2 {
				if got, e := d.Read(4 + 2*i + copied); e != api.OK || !bytes.Equal(got, block) {
					t.Fatalf("Save of %d bytes: the copy %d of the block %d is another", n, copied, i)
				}
			}
		}
	}
}

// TestSaveWaits: P10.1, J1: nothing is laid till it is flushed, and the first block that is put is the first chunk.
func TestSaveWaits(t *testing.T) {
	k, d := made(t, 32, 1)
	p := save(t, k, bytesOf(300))
	d.Crash(nil)
	loadTells(t, "that only waited", k, p, api.ErrDamaged)
	k, d = made(t, 32, 1)
	p = save(t, k, bytesOf(300))
	d.Crash([]int{256, 256, 256, 256, 256, 256, 256})
	loads(t, "one copy of whose head took hold", k, p, bytesOf(300))
	k, d = made(t, 32, 1)
	p = save(t, k, bytesOf(300))
	d.Crash([]int{256, 256, 256, 256, 256, 256})
	loadTells(t, "whose head alone did not take hold", k, p, api.ErrDamaged)
}

// TestSaveLarge: P10.1, J1: more than MaxBlob bytes are ErrLarge, whatever else there is.
func TestSaveLarge(t *testing.T) {
	k, d := made(t, 512, 1)
	for _, n := range []int{5001, 5002, 5120, 5121, 1 << 20} {
		stays(t, "of too many", k, d, make([]byte, n), api.ErrLarge, 0)
	}
	small, on := made(t, 16, 1)
	stays(t, "of too many for the room too", small, on, make([]byte, 5001), api.ErrLarge, 0)
	cut(d)
	stays(t, "of too many without power", k, d, make([]byte, 5001), api.ErrLarge, 0)
	if p, e := blob.Save(nil, make([]byte, 5001)); p != hole || e != api.ErrLarge {
		t.Errorf("Save of too many over nothing: %v, %d", p, e)
	}
}

// TestSaveFull: P10.1, J1: where there is no room, whatever is free, the map is as it was.
func TestSaveFull(t *testing.T) {
	for _, n := range []int{0, 1, 256, 257, 1024, 1025, 2049, 5000} {
		for free := range blob.Need(n) {
			k, d := made(t, 64, 1)
			// The sectors that are left free lie apart, so that giving back too few or too many shows.
			for range 60 {
				k.Map().Take(1)
			}
			for i := range free {
				k.Map().Give(uint32(4 + (i*7)%60))
			}
			stays(t, "without room", k, d, bytesOf(n), api.ErrFull, free/2*2)
		}
	}
}

// TestSaveFuse: P10.1, J1: wherever the power goes, it is ErrDown, and the map is as it was.
func TestSaveFuse(t *testing.T) {
	b := bytesOf(1300)
	for n := range blob.Need(len(b)) {
		k, d := made(t, 64, 1)
		save(t, k, bytesOf(10))
		d.Fuse(n)
		stays(t, "with a fuse", k, d, b, api.ErrDown, n)
		stays(t, "without power", k, d, b, api.ErrDown, 0)
	}
	k, d := made(t, 64, 1)
	d.Fuse(blob.Need(len(b)))
	loads(t, "with a fuse that was just long enough", k, save(t, k, b), b)
}

// TestSaveArg: P10.1, J1: Put's ErrArg too gives back what was put ahead of it.
func TestSaveArg(t *testing.T) {
	d, _ := disk.New(20)
	m, _ := space.New(64)
	k := bank.Over(d, m, 1)
	stays(t, "with a map beyond the disk", k, d, bytesOf(2000), api.ErrArg, 16)
	loads(t, "for which the disk is long enough", k, save(t, k, bytesOf(1024)), bytesOf(1024))
}

// TestSaveNone: P10.1, R1: without a bank, a disk or a map.
func TestSaveNone(t *testing.T) {
	m, _ := space.New(64)
	d, _ := disk.New(64)
	for _, k := range []*bank.Bank{nil, {}, bank.Over(nil, m, 1), bank.Over(nil, nil, 1)} {
		for _, n := range []int{0, 1, 5000} {
			if p, e := blob.Save(k, make([]byte, n)); p != hole || e != api.ErrDown {
				t.Errorf("Save of %d bytes over nothing: %v, %d", n, p, e)
			}
		}
	}
	if p, e := blob.Save(bank.Over(d, nil, 1), nil); p != hole || e == api.OK {
		t.Errorf("Save without a map: %v, %d", p, e)
	}
	if m.Free() != 60 {
		t.Errorf("Save over nothing took %d", 60-m.Free())
	}
}

// TestNeed: P10.1, J1: of all lengths, and of wrong ones.
func TestNeed(t *testing.T) {
	for n := range api.MaxBlob + 1 {
		chunks, nodes := counts(n)
		if got := blob.Need(n); got != 2*(chunks+nodes+1) {
			t.Errorf("Need of %d: %d", n, got)
		}
	}
	for _, n := range []int{-1, -256, -257, math.MinInt, 5001, 5120, 1 << 32, math.MaxInt} {
		if got := blob.Need(n); got != 0 {
			t.Errorf("Need of %d: %d, want 0", n, got)
		}
	}
	for n, want := range map[int]int{0: 2, 1: 6, 256: 6, 257: 8, 1024: 12, 1025: 16, 5000: 52} {
		if got := blob.Need(n); got != want {
			t.Errorf("Need of %d: %d, want %d", n, got, want)
		}
	}
}

// TestThereAndBack: P10.2: what is saved is loaded as it was, and takes as many sectors as Need says.
func TestThereAndBack(t *testing.T) {
	chance := rand.New(rand.NewSource(10))
	all := lengths()
	for range 200 {
		all = append(all, chance.Intn(api.MaxBlob+1))
	}
	for _, n := range all {
		k, d := made(t, 128, 3)
		b := make([]byte, n)
		chance.Read(b)
		free := k.Map().Free()
		p := save(t, k, b)
		if took := free - k.Map().Free(); took != blob.Need(n) {
			t.Errorf("Save of %d bytes took %d, want %d", n, took, blob.Need(n))
		}
		loads(t, "that waits", k, p, b)
		d.Flush()
		loads(t, "that is laid", k, p, b)
	}
}

// TestNoughts: P10.2: bytes of noughts alone are blocks like others, and of them only so many come back.
func TestNoughts(t *testing.T) {
	for _, n := range []int{0, 1, 255, 256, 257, 1024, 1025, 5000} {
		k, _ := made(t, 64, 3)
		b := make([]byte, n)
		p := save(t, k, b)
		loads(t, "of noughts", k, p, b)
		if used := 60 - k.Map().Free(); used != blob.Need(n) {
			t.Errorf("%d noughts took %d", n, used)
		}
		if l, whole := blob.Walk(k, p); len(l) != blob.Need(n)/2 || !whole {
			t.Errorf("%d noughts: %d pointers, %v", n, len(l), whole)
		}
	}
}

// TestMany: P10.2: blobs do not tread on each other, and one fits where just its room is left.
func TestMany(t *testing.T) {
	k, _ := made(t, 512, 3)
	chance := rand.New(rand.NewSource(11))
	var all [][]byte
	var at []api.Ptr
	for k.Map().Free() >= blob.Need(1500) {
		b := make([]byte, chance.Intn(1501))
		chance.Read(b)
		all, at = append(all, b), append(at, save(t, k, b))
	}
	for k.Map().Free() > 0 {
		b := bytesOf(0)
		for n := range 1501 {
			if blob.Need(n) <= k.Map().Free() {
				b = bytesOf(n)
			}
		}
		all, at = append(all, b), append(at, save(t, k, b))
	}
	for i, b := range all {
		loads(t, "among many", k, at[i], b)
	}
}

// TestTwice: P10.3: one copy of each block may rot; where both of one do, the blob is damaged.
func TestTwice(t *testing.T) {
	chance := rand.New(rand.NewSource(12))
	for _, n := range []int{0, 1, 256, 700, 1024, 1025, 3000, 5000} {
		b := bytesOf(n)
		for range 6 {
			k, d := made(t, 64, 3)
			p := save(t, k, b)
			l, _ := blob.Walk(k, p)
			for _, q := range l {
				rot(t, d, q, chance.Intn(2))
			}
			loads(t, "one copy of whose blocks rotted", k, p, b)
			walks(t, "one copy of whose blocks rotted", k, p, true, l...)
		}
		k, d := made(t, 64, 3)
		p := save(t, k, b)
		l, _ := blob.Walk(k, p)
		for _, q := range l {
			rot(t, d, q, 0, 1)
			loadTells(t, "both copies of one of whose blocks rotted", k, p, api.ErrDamaged)
			rot(t, d, q, 0, 1) // the same bits once more: it is right again
			loads(t, "whose blocks are right again", k, p, b)
		}
	}
}

// TestLoadHole: P10.1, J2: of a hole no bytes; without power ErrDown goes ahead.
func TestLoadHole(t *testing.T) {
	k, d := made(t, 16, 3)
	loads(t, "of a hole", k, hole, nil)
	loads(t, "of a blob of no bytes", k, save(t, k, nil), nil)
	cut(d)
	loadTells(t, "of a hole without power", k, hole, api.ErrDown)
}

// TestLoadDown: P10.1, J2: ErrDown goes ahead of what is damaged; a bank over nothing has no power.
func TestLoadDown(t *testing.T) {
	k, d := made(t, 64, 3)
	p := save(t, k, bytesOf(2000))
	d.Flush()
	bad := api.Ptr{At: [2]uint32{7, 7}}
	cut(d)
	m, _ := space.New(64)
	for _, k := range []*bank.Bank{k, nil, {}, bank.Over(nil, m, 1)} {
		for _, q := range []api.Ptr{p, hole, bad, {Birth: 1}, {Birth: 1, At: [2]uint32{9, 600}}} {
			loadTells(t, "without power", k, q, api.ErrDown)
		}
		walks(t, "of a hole without power", k, hole, true)
		walks(t, "without power", k, p, false, p)
		walks(t, "of what may not be, without power", k, bad, false, bad)
	}
	d.Crash(nil)
	loads(t, "with power again", k, p, bytesOf(2000))
}

// wrongPointers are pointers by which no block is read.
func wrongPointers() map[string]api.Ptr {
	h := sha256.Sum256([]byte("no block"))
	return map[string]api.Ptr{
		"whose first copy alone is nowhere": {Hash: h, Birth: 1, At: [2]uint32{0, 5}},
		"whose copies are one":              {Hash: h, Birth: 1, At: [2]uint32{6, 6}},
		"of noughts and one copy":           {At: [2]uint32{0, 1}},
		"that is absent":                    {Hash: h, Birth: 1},
		"with a birth alone":                {Birth: 1},
		"of another block":                  {Hash: h, Birth: 1, At: [2]uint32{4, 5}},
		"beyond the disk":                   {Hash: h, Birth: 1, At: [2]uint32{64, math.MaxUint32}},
		"on the labels":                     {Hash: h, Birth: 1, At: [2]uint32{1, 2}},
	}
}

// TestPointers: P10.1, J2, J3: a wrong pointer of the head, of a node and of a chunk is damaged, and told.
func TestPointers(t *testing.T) {
	for what, bad := range wrongPointers() {
		k, _ := made(t, 64, 3)
		chunk := put(t, k, padded(bytesOf(256)))
		loadTells(t, "a head "+what, k, bad, api.ErrDamaged)
		walks(t, "a head "+what, k, bad, false, bad)

		good := put(t, k, nodeOf(chunk, chunk, chunk, chunk))
		node := put(t, k, headOf(1025, good, bad))
		loadTells(t, "a node "+what, k, node, api.ErrDamaged)
		if may := bad.At[0] != bad.At[1] && bad.At[0] != 0 || bad.At == [2]uint32{}; may {
			walks(t, "a node "+what, k, node, false, node, good, chunk, chunk, chunk, chunk, bad)
		} else {
			walks(t, "a node "+what, k, node, false, node)
		}

		below := put(t, k, nodeOf(chunk, bad))
		p := put(t, k, headOf(300, below))
		loadTells(t, "a chunk "+what, k, p, api.ErrDamaged)
		if may := bad.At[0] != bad.At[1] && bad.At[0] != 0 || bad.At == [2]uint32{}; may {
			walks(t, "a chunk "+what, k, p, true, p, below, chunk, bad)
		} else {
			walks(t, "a chunk "+what, k, p, false, p, below)
		}
	}
}

// TestHeads: P10.1, J2, J3: heads that are not as they must be.
func TestHeads(t *testing.T) {
	k, _ := made(t, 256, 3)
	chunk := put(t, k, bytesOf(256))
	short := put(t, k, padded(bytesOf(255)))
	one := put(t, k, nodeOf(short))
	four := put(t, k, nodeOf(chunk, chunk, chunk, chunk))
	heads := map[string][]byte{
		"that tells 5001 bytes":           headOf(5001, four, four, four, four, four),
		"that tells 5120 bytes":           headOf(5120, four, four, four, four, four),
		"that tells 2^31 bytes":           headOf(1<<31, four, four, four, four, four),
		"that tells 2^32 - 1 bytes":       headOf(math.MaxUint32, four, four, four, four, four),
		"without a node":                  headOf(1),
		"of a node that is a hole":        headOf(1025, four),
		"of a first node that is a hole":  headOf(1025, hole, four),
		"of 5 nodes of which one lacks":   headOf(5000, four, four, hole, four, four),
		"of no bytes and a node":          headOf(0, one),
		"of no bytes and the last node":   headOf(0, hole, hole, hole, hole, one),
		"of a node too many":              headOf(1024, four, four),
		"of a node behind a hole":         headOf(1024, four, hole, four),
		"of a wrong pointer behind":       headOf(1024, four, api.Ptr{At: [2]uint32{0, 1}}),
		"of an absent pointer behind":     headOf(1024, four, api.Ptr{Birth: 1}),
		"of a wrong pointer at the end":   headOf(255, one, hole, hole, hole, api.Ptr{At: [2]uint32{3, 3}}),
		"with a byte behind the pointers": append(headOf(255, one)[:224:224], bytes.Repeat([]byte{1}, 32)...),
		"with a byte at its end":          append(headOf(255, one)[:255:255], 1),
		"of no bytes and one at its end":  append(headOf(0)[:255:255], 1),
		"of one byte alone":               padded([]byte{1}),
		"of bytes":                        bytesOf(256),
	}
	for what, b := range heads {
		p := put(t, k, b)
		loadTells(t, "a head "+what, k, p, api.ErrDamaged)
		walks(t, "a head "+what, k, p, false, p)
	}
	p := put(t, k, headOf(0))
	loads(t, "a head of noughts", k, p, nil)
	walks(t, "a head of noughts", k, p, true, p)
	p = put(t, k, headOf(255, one))
	loads(t, "of one's own", k, p, bytesOf(255))
	walks(t, "of one's own", k, p, true, p, one, short)
}

// TestNodes: P10.1, J2, J3: nodes that are not as they must be; what lies below the others is told.
func TestNodes(t *testing.T) {
	k, _ := made(t, 256, 3)
	chunk := put(t, k, bytesOf(256))
	four := put(t, k, nodeOf(chunk, chunk, chunk, chunk))
	nodes := map[string][]byte{
		"without chunks":                  nodeOf(),
		"of a chunk too few":              nodeOf(chunk, chunk, chunk),
		"without its first chunk":         nodeOf(hole, chunk, chunk, chunk),
		"without its third chunk":         nodeOf(chunk, chunk, hole, chunk),
		"of a wrong pointer":              nodeOf(chunk, chunk, chunk, api.Ptr{At: [2]uint32{0, 9}}),
		"with a byte behind the pointers": append(nodeOf(chunk, chunk, chunk, chunk)[:176:176], bytes.Repeat([]byte{1}, 80)...),
		"with a byte at its end":          append(nodeOf(chunk, chunk, chunk, chunk)[:255:255], 1),
		"of bytes":                        bytesOf(256),
	}
	for what, b := range nodes {
		bad := put(t, k, b)
		p := put(t, k, headOf(3072, four, bad, four))
		loadTells(t, "a node "+what, k, p, api.ErrDamaged)
		walks(t, "a node "+what, k, p, false, p, four, chunk, chunk, chunk, chunk, bad, four, chunk, chunk, chunk, chunk)
	}
	last := map[string][]byte{
		"of a chunk too many":       nodeOf(chunk, chunk, chunk),
		"of a chunk behind a hole":  nodeOf(chunk, chunk, hole, chunk),
		"of an absent chunk behind": nodeOf(chunk, chunk, api.Ptr{Birth: 1}),
		"of a chunk too few":        nodeOf(chunk),
	}
	for what, b := range last {
		bad := put(t, k, b)
		p := put(t, k, headOf(1536, four, bad))
		loadTells(t, "a last node "+what, k, p, api.ErrDamaged)
		walks(t, "a last node "+what, k, p, false, p, four, chunk, chunk, chunk, chunk, bad)
	}
}

// TestChunks: P10.1, J2, J3: bytes behind a blob's end must be noughts; Walk does not read chunks.
func TestChunks(t *testing.T) {
	k, d := made(t, 64, 3)
	full := put(t, k, bytesOf(256))
	node := put(t, k, nodeOf(full, full))
	for n := 257; n < 512; n += 254 {
		p := put(t, k, headOf(uint32(n), node))
		loadTells(t, "with bytes behind its end", k, p, api.ErrDamaged)
		walks(t, "with bytes behind its end", k, p, true, p, node, full, full)
	}
	p := put(t, k, headOf(512, node))
	loads(t, "that ends with its chunk", k, p, append(bytesOf(256), bytesOf(256)...))
	rot(t, d, full, 0, 1)
	loadTells(t, "whose chunk is lost", k, p, api.ErrDamaged)
	walks(t, "whose chunk is lost", k, p, true, p, node, full, full)
}

// TestWalk: P10.1, J3: the head, then node by node the node and its chunks.
func TestWalk(t *testing.T) {
	for _, n := range lengths() {
		k, _ := made(t, 64, 3)
		b := bytesOf(n)
		want, all := blocks(b, 3)
		p := save(t, k, b)
		order := []api.Ptr{p}
		for at := 0; at < len(want); at += 5 {
			last := min(at+5, len(want)) - 1
			order = append(order, all[last])
			order = append(order, all[at:last]...)
		}
		walks(t, "in order", k, p, true, order...)
	}
	k, _ := made(t, 16, 3)
	walks(t, "of a hole", k, hole, true)
}

// TestWalkRot: P10.1, J3: what lies below a node that can't be read is not told, all else is.
func TestWalkRot(t *testing.T) {
	k, d := made(t, 64, 3)
	p := save(t, k, bytesOf(5000))
	l, whole := blob.Walk(k, p)
	if len(l) != 26 || !whole {
		t.Fatalf("Walk: %d, %v", len(l), whole)
	}
	var want []api.Ptr
	for i, q := range l {
		if i == 6 || i == 16 { // the second and the fourth node
			rot(t, d, q, 0, 1)
		}
		if i <= 6 || i > 10 && i <= 16 || i > 20 {
			want = append(want, q)
		}
	}
	walks(t, "without two nodes", k, p, false, want...)
	rot(t, d, p, 0, 1)
	walks(t, "without a head", k, p, false, p)
}

// TestShares: R4, R5: what is handed in is not changed and not kept, answers are new memory, and the same call tells the same.
func TestShares(t *testing.T) {
	k, _ := made(t, 128, 3)
	room := bytesOf(2000)
	was := slices.Clone(room)
	p := save(t, k, room[:700])
	if !bytes.Equal(room, was) {
		t.Error("Save changed what was handed in, or the room behind it")
	}
	for i := range room {
		room[i] = 0
	}
	loads(t, "whose bytes were changed since", k, p, was[:700])
	for range 3 {
		b, _ := blob.Load(k, p)
		b = b[:cap(b)]
		for i := range b {
			b[i] = 0
		}
		l, _ := blob.Walk(k, p)
		l = l[:cap(l)]
		for i := range l {
			l[i] = hole
		}
	}
	loads(t, "whose answer was changed since", k, p, was[:700])
	if l, whole := blob.Walk(k, p); len(l) != 5 || !whole || l[0] != p {
		t.Errorf("Walk: %v, %v", l, whole)
	}
	a, _ := made(t, 128, 3)
	b, _ := made(t, 128, 3)
	if save(t, a, was) != save(t, b, was) || !bytes.Equal(a.Map().Bytes(), b.Map().Bytes()) {
		t.Error("the same Save twice is not the same")
	}
	empty, _ := made(t, 16, 3)
	other, _ := made(t, 16, 3)
	if save(t, empty, nil) != save(t, other, []byte{}) {
		t.Error("nil is not the empty list")
	}
}

// TestReadsAlone: R2: Load and Walk change neither the map nor the disk.
func TestReadsAlone(t *testing.T) {
	k, d := made(t, 64, 3)
	p := save(t, k, bytesOf(3000))
	was, waits := k.Map().Bytes(), d.Waits()
	d.Fuse(0)
	blob.Load(k, p)
	blob.Walk(k, p)
	blob.Load(k, api.Ptr{Birth: 1})
	if !bytes.Equal(k.Map().Bytes(), was) || d.Waits() != waits {
		t.Error("Load or Walk changed something")
	}
	loads(t, "with a fuse of nothing", k, p, bytesOf(3000))
}
