package disk_test

import (
	"bytes"
	"fmt"
	"math"
	"math/rand"
	"slices"
	"testing"

	"cautery/api"
	"cautery/disk"
)

// filled is a sector of one byte.
func filled(c byte) []byte { return bytes.Repeat([]byte{c}, api.Sector) }

// striped is a sector whose bytes all differ from their neighbours, by a number.
func striped(c byte) []byte {
	b := make([]byte, api.Sector)
	for i := range b {
		b[i] = c + byte(i)*7
	}
	return b
}

// made is a new disk.
func made(t *testing.T, n int) *disk.Disk {
	t.Helper()
	d, e := disk.New(n)
	if d == nil || e != api.OK {
		t.Fatalf("New(%d): %v, %d", n, d, e)
	}
	return d
}

// told is what Write, Flush and Rot tell, held against what they must.
func told(t *testing.T, what string, got, want api.Errno) {
	t.Helper()
	if got != want {
		t.Errorf("%s: %d, not %d", what, got, want)
	}
}

// reads holds sector i, as it is read, against b.
func reads(t *testing.T, what string, d *disk.Disk, i int, b []byte) {
	t.Helper()
	if got, e := d.Read(i); e != api.OK || !bytes.Equal(got, b) {
		t.Errorf("%s: sector %d reads %d, %v", what, i, e, got)
	}
}

// lies holds what is on the disk of sector i against b.
func lies(t *testing.T, what string, d *disk.Disk, i int, b []byte) {
	t.Helper()
	if got := d.Dump(); len(got) != d.Len()*api.Sector || !bytes.Equal(got[i*api.Sector:(i+1)*api.Sector], b) {
		t.Errorf("%s: on sector %d of %d bytes lies something else", what, i, len(got))
	}
}

// waits holds how many writes wait against n.
func waits(t *testing.T, what string, d *disk.Disk, n int) {
	t.Helper()
	if d.Waits() != n {
		t.Errorf("%s: %d wait, not %d", what, d.Waits(), n)
	}
}

// isDown holds that the power is off: the calls that need it tell so, whatever they are handed.
func isDown(t *testing.T, what string, d *disk.Disk) {
	t.Helper()
	for _, i := range []int{0, -1, d.Len() - 1, d.Len(), math.MaxInt} {
		if b, e := d.Read(i); len(b) != 0 || e != api.ErrDown {
			t.Errorf("%s: Read(%d): %v, %d", what, i, b, e)
		}
		told(t, what+": Write", d.Write(i, filled(9)), api.ErrDown)
		told(t, what+": Write of nothing", d.Write(i, nil), api.ErrDown)
	}
	told(t, what+": Flush", d.Flush(), api.ErrDown)
}

// isUp holds that the power is on, without a call that a fuse counts.
func isUp(t *testing.T, what string, d *disk.Disk) {
	t.Helper()
	if b, e := d.Read(0); len(b) != api.Sector || e != api.OK {
		t.Errorf("%s: Read(0): %v, %d", what, b, e)
	}
}

// P4.1, D1: a disk of each size that may be: noughts, nothing waits, no fuse.
func TestNew(t *testing.T) {
	for n := api.MinSectors; n <= api.MaxSectors; n++ {
		d := made(t, n)
		if d.Len() != n || d.Waits() != 0 || !bytes.Equal(d.Dump(), make([]byte, n*api.Sector)) {
			t.Fatalf("New(%d): %d sectors, %d wait", n, d.Len(), d.Waits())
		}
		for _, i := range []int{0, 1, n - 1} {
			reads(t, "new", d, i, filled(0))
		}
	}
}

// P4.1, D1: sizes that may not be.
func TestNewTellsWrongSizes(t *testing.T) {
	for _, n := range []int{math.MinInt, -512, -16, -1, 0, 1, 15, 513, 514, 1 << 20, math.MaxInt32, math.MaxInt} {
		if d, e := disk.New(n); d != nil || e != api.ErrArg {
			t.Errorf("New(%d): %v, %d", n, d, e)
		}
	}
}

// P4.1, D2: a new disk has no fuse: many more calls are done than any small one would let through.
func TestNewHasNoFuse(t *testing.T) {
	d := made(t, 16)
	for k := range 2000 {
		told(t, "Write", d.Write(k%16, filled(byte(k))), api.OK)
		if k%7 == 0 {
			told(t, "Flush", d.Flush(), api.OK)
		}
	}
}

// P4.1, D1: a write waits: it is read, and is not on the disk.
func TestWriteWaits(t *testing.T) {
	d := made(t, 16)
	for k, i := range []int{3, 0, 15, 3, 3, 0} {
		told(t, "Write", d.Write(i, striped(byte(k+1))), api.OK)
		waits(t, "Write", d, k+1)
		reads(t, "Write", d, i, striped(byte(k+1)))
	}
	reads(t, "the last one of three", d, 3, striped(5))
	reads(t, "the last one of two", d, 0, striped(6))
	reads(t, "the only one", d, 15, striped(3))
	reads(t, "none", d, 7, filled(0))
	if !bytes.Equal(d.Dump(), make([]byte, 16*api.Sector)) {
		t.Error("what waits is on the disk")
	}
}

// P4.1, D1: a write of the same bytes waits as any other.
func TestWriteOfTheSame(t *testing.T) {
	d := made(t, 16)
	for k := range 5 {
		told(t, "Write", d.Write(2, filled(0)), api.OK)
		waits(t, "Write", d, k+1)
	}
}

// P4.1, D1: what Read and Write tell of a sector that is not there, and of bytes that are no sector; none of it changes the disk.
func TestReadAndWriteTellWrongArguments(t *testing.T) {
	for _, n := range []int{16, 100, 512} {
		d := made(t, n)
		for _, i := range []int{math.MinInt, -n, -1, n, n + 1, 1 << 40, math.MaxInt, math.MaxInt / api.Sector, math.MaxInt/api.Sector + 1} {
			if b, e := d.Read(i); len(b) != 0 || e != api.ErrArg {
				t.Errorf("Read(%d) of %d: %v, %d", i, n, b, e)
			}
			told(t, "no such sector", d.Write(i, filled(1)), api.ErrArg)
			told(t, "no such sector, no bytes", d.Write(i, nil), api.ErrArg)
		}
		for _, size := range []int{0, 1, 255, 257, 512, 5000} {
			told(t, "bytes that are no sector", d.Write(n-1, make([]byte, size)), api.ErrArg)
			told(t, "bytes with room for a sector", d.Write(n-1, make([]byte, size, 6000)[:min(size, 255)]), api.ErrArg)
		}
		waits(t, "wrong arguments", d, 0)
		told(t, "the last sector", d.Write(n-1, striped(4)), api.OK)
		reads(t, "the last sector", d, n-1, striped(4))
	}
}

// P4.1, D2: Flush lays all that waits, in order, and none waits then.
func TestFlush(t *testing.T) {
	d := made(t, 20)
	told(t, "Flush of nothing", d.Flush(), api.OK)
	for k, i := range []int{3, 19, 3, 0, 3, 19} {
		d.Write(i, striped(byte(k+1)))
	}
	told(t, "Flush", d.Flush(), api.OK)
	waits(t, "Flush", d, 0)
	for i, b := range map[int][]byte{3: striped(5), 19: striped(6), 0: striped(4), 1: filled(0), 18: filled(0)} {
		reads(t, "flushed", d, i, b)
		lies(t, "flushed", d, i, b)
	}
	d.Write(3, filled(8))
	reads(t, "written behind", d, 3, filled(8))
	lies(t, "written behind", d, 3, striped(5))
}

// P4.1, D2, example 1: a crash of nothing: none of what waits takes hold.
func TestCrashOfNothing(t *testing.T) {
	for _, keep := range [][]int{nil, {}, {0}, {0, 0, 0}, {-1}, {math.MinInt, -5}} {
		d := made(t, 16)
		d.Write(3, filled(1))
		d.Write(3, filled(2))
		d.Crash(keep)
		waits(t, "a crash", d, 0)
		reads(t, "a crash", d, 3, filled(0))
		lies(t, "a crash", d, 3, filled(0))
	}
}

// P4.1, D2: each number of bytes that a crash may keep of one write, and numbers that count as none or all.
func TestCrashKeepsSoManyBytes(t *testing.T) {
	keeps := []int{math.MinInt, -257, -256, -1, 257, 511, 512, math.MaxInt32, math.MaxInt}
	for n := range api.Sector + 1 {
		keeps = append(keeps, n)
	}
	for _, n := range keeps {
		d := made(t, 16)
		d.Write(15, striped(1))
		d.Flush()
		d.Write(15, striped(100))
		d.Crash([]int{n})
		kept := min(max(n, 0), api.Sector)
		want := slices.Concat(striped(100)[:kept], striped(1)[kept:])
		reads(t, "kept in part", d, 15, want)
		lies(t, "kept in part", d, 15, want)
		lies(t, "its neighbour", d, 14, filled(0))
		lies(t, "the first one", d, 0, filled(0))
		waits(t, "kept in part", d, 0)
	}
}

// P4.1, D2: the k-th number is that of the k-th waiting write, whatever sector it is of; they take hold in order.
func TestCrashInOrder(t *testing.T) {
	d := made(t, 16)
	for k, i := range []int{5, 2, 5, 9, 5, 2} {
		d.Write(i, filled(byte(k+1)))
	}
	d.Crash([]int{200, 0, 100, 256, 50})
	five := slices.Concat(filled(5)[:50], filled(3)[:50], filled(1)[:100], filled(0)[:56])
	for i, want := range map[int][]byte{5: five, 2: filled(0), 9: filled(4), 8: filled(0), 10: filled(0)} {
		reads(t, "in order", d, i, want)
	}
}

// P4.1, D2: a later write that is kept less takes hold over an earlier one that is kept more, and one kept more hides it.
func TestCrashOfOneSectorTwice(t *testing.T) {
	for _, x := range [][2]int{{0, 0}, {0, 9}, {9, 0}, {256, 3}, {3, 256}, {7, 7}, {-4, 999}} {
		d := made(t, 16)
		d.Write(1, filled(1))
		d.Write(1, filled(2))
		d.Crash(x[:])
		want := filled(0)
		copy(want, filled(1)[:min(max(x[0], 0), 256)])
		copy(want, filled(2)[:min(max(x[1], 0), 256)])
		reads(t, fmt.Sprint("twice: ", x), d, 1, want)
	}
}

// P4.1, D2: numbers beyond the waiting writes say nothing, and stay for no later one.
func TestCrashOfMoreNumbers(t *testing.T) {
	d := made(t, 16)
	d.Crash([]int{256, 256})
	d.Write(0, filled(1))
	d.Crash([]int{1, 256, 256, 256})
	want := filled(0)
	want[0] = 1
	reads(t, "one of four", d, 0, want)
	d.Write(1, filled(1))
	d.Crash(nil)
	reads(t, "the next one", d, 1, filled(0))
}

// P4.1, D2: the numbers count what waits: not what was flushed, nor what an earlier crash took.
func TestCrashCountsFromTheFlush(t *testing.T) {
	d := made(t, 16)
	d.Write(0, filled(1))
	d.Flush()
	d.Write(1, filled(2))
	d.Crash([]int{256})
	d.Write(2, filled(3))
	d.Write(3, filled(4))
	d.Crash([]int{0, 256})
	for i, c := range []byte{1, 2, 0, 4, 0} {
		reads(t, "counted", d, i, filled(c))
	}
}

// P4.1, D2: exclusive-or of what is on the disk, byte by byte, beyond the mask's end as it is.
func TestRot(t *testing.T) {
	for _, mask := range [][]byte{nil, {}, {4}, {0}, {255, 0, 1}, striped(9)[:255], striped(9), filled(0), filled(255)} {
		for _, i := range []int{0, 7, 15} {
			d := made(t, 16)
			for j := range 16 {
				d.Write(j, striped(byte(j)))
			}
			d.Flush()
			want := striped(byte(i))
			for j, m := range mask {
				want[j] ^= m
			}
			told(t, "Rot", d.Rot(i, mask), api.OK)
			for j := range 16 {
				if j == i {
					reads(t, "rotten", d, j, want)
					lies(t, "rotten", d, j, want)
				} else {
					lies(t, "another one", d, j, striped(byte(j)))
				}
			}
			told(t, "Rot again", d.Rot(i, mask), api.OK)
			reads(t, "rotten twice", d, i, striped(byte(i)))
		}
	}
}

// P4.1, D2: waiting writes stay as they are, and cover what rots below them; where they don't take hold, it is told.
func TestRotBelowWaitingWrites(t *testing.T) {
	d := made(t, 16)
	d.Write(4, filled(1))
	d.Flush()
	d.Write(4, filled(2))
	told(t, "Rot", d.Rot(4, []byte{8, 8, 8}), api.OK)
	waits(t, "Rot", d, 1)
	reads(t, "what waits", d, 4, filled(2))
	bad := slices.Concat(filled(9)[:3], filled(1)[3:])
	lies(t, "what rots", d, 4, bad)
	d.Crash([]int{2})
	reads(t, "both", d, 4, slices.Concat([]byte{2, 2, 9}, filled(1)[3:]))
	d.Write(4, filled(3))
	d.Rot(4, filled(7))
	d.Flush()
	reads(t, "flushed over it", d, 4, filled(3))
}

// P4.1, D2: what Rot tells of a sector that is not there, and of a mask that is too long; nothing rots then.
func TestRotTellsWrongArguments(t *testing.T) {
	for _, n := range []int{16, 512} {
		d := made(t, n)
		for _, i := range []int{math.MinInt, -1, n, n + 1, 1 << 40, math.MaxInt, math.MaxInt/api.Sector + 1} {
			told(t, "no such sector", d.Rot(i, filled(1)), api.ErrArg)
			told(t, "no such sector, no mask", d.Rot(i, nil), api.ErrArg)
			told(t, "no such sector, a long mask", d.Rot(i, make([]byte, 300)), api.ErrArg)
		}
		for _, size := range []int{257, 512, 5000} {
			told(t, "a long mask", d.Rot(0, bytes.Repeat([]byte{1}, size)), api.ErrArg)
			told(t, "a long mask", d.Rot(n-1, bytes.Repeat([]byte{1}, size)), api.ErrArg)
		}
		if !bytes.Equal(d.Dump(), make([]byte, n*api.Sector)) {
			t.Error("something rotted")
		}
	}
}

// P4.1, D2: a fuse of f lets f calls of Write and Flush be done; the power is on till the one behind these.
func TestFuse(t *testing.T) {
	for f := range 12 {
		for first := range 2 {
			d := made(t, 16)
			d.Fuse(f)
			calls := []func() api.Errno{func() api.Errno { return d.Write(1, filled(1)) }, d.Flush}
			for k := range f {
				isUp(t, "within the fuse", d)
				told(t, "within the fuse", calls[(k+first)%2](), api.OK)
			}
			isUp(t, "ahead of the call", d)
			had := d.Waits()
			told(t, "the call", calls[(f+first)%2](), api.ErrDown)
			isDown(t, "behind it", d)
			waits(t, "behind it", d, had)
		}
	}
}

// P4.1, D2: below 0 counts as 0: the next call is the one with which the power is off.
func TestFuseBelowNought(t *testing.T) {
	for _, f := range []int{0, -1, -2, -1000, math.MinInt} {
		d := made(t, 16)
		d.Fuse(f)
		isUp(t, "a fuse below 0", d)
		told(t, "Write", d.Write(0, filled(1)), api.ErrDown)
		isDown(t, "a fuse below 0", d)
		waits(t, "a fuse below 0", d, 0)
		d = made(t, 16)
		d.Fuse(f)
		told(t, "Flush", d.Flush(), api.ErrDown)
		isDown(t, "a fuse below 0", d)
	}
}

// P4.1, D2: a great fuse.
func TestFuseGreat(t *testing.T) {
	d := made(t, 16)
	d.Fuse(math.MaxInt)
	for range 1000 {
		told(t, "Write", d.Write(0, filled(1)), api.OK)
		told(t, "Flush", d.Flush(), api.OK)
	}
	isUp(t, "a great fuse", d)
}

// P4.1, D1: neither calls that are ErrArg, nor any but Write and Flush, are counted; with the fuse spent they are as ever.
func TestFuseCountsWhatWouldBeDone(t *testing.T) {
	d := made(t, 16)
	spare := func(what string) {
		for range 5 {
			told(t, what, d.Write(16, filled(1)), api.ErrArg)
			told(t, what, d.Write(-1, filled(1)), api.ErrArg)
			told(t, what, d.Write(0, nil), api.ErrArg)
			told(t, what, d.Write(0, make([]byte, 257)), api.ErrArg)
			if b, e := d.Read(16); len(b) != 0 || e != api.ErrArg {
				t.Errorf("%s: Read(16): %v, %d", what, b, e)
			}
			told(t, what, d.Rot(16, nil), api.ErrArg)
			told(t, what, d.Rot(5, []byte{1}), api.OK)
			isUp(t, what, d)
			d.Len()
			d.Waits()
			d.Dump()
		}
	}
	d.Fuse(2)
	spare("a whole fuse")
	told(t, "the first call", d.Write(0, filled(1)), api.OK)
	spare("half a fuse")
	told(t, "the second call", d.Flush(), api.OK)
	spare("a spent fuse")
	told(t, "the third call", d.Flush(), api.ErrDown)
	isDown(t, "behind it", d)
}

// P4.1, D2: a Flush of nothing is a call that would be done.
func TestFuseCountsFlushOfNothing(t *testing.T) {
	d := made(t, 16)
	d.Fuse(1)
	told(t, "Flush of nothing", d.Flush(), api.OK)
	told(t, "Flush of nothing", d.Flush(), api.ErrDown)
	isDown(t, "behind it", d)
}

// P4.1, D2: the Flush with which the power goes lays nothing; what waited waits on, and a crash takes of it what it keeps.
func TestFuseWithinFlush(t *testing.T) {
	for _, keep := range []int{0, 10, 256} {
		d := made(t, 16)
		d.Write(3, filled(1))
		d.Write(4, filled(2))
		d.Fuse(0)
		told(t, "Flush", d.Flush(), api.ErrDown)
		told(t, "Write", d.Write(5, filled(3)), api.ErrDown)
		waits(t, "power off", d, 2)
		if !bytes.Equal(d.Dump(), make([]byte, 16*api.Sector)) {
			t.Error("something was laid")
		}
		d.Crash([]int{keep, 256, 256})
		reads(t, "the first one", d, 3, slices.Concat(filled(1)[:keep], filled(0)[keep:]))
		reads(t, "the second one", d, 4, filled(2))
		reads(t, "the one that was not done", d, 5, filled(0))
	}
}

// P4.1, D2: Rot, Dump, Len and Waits don't need the power.
func TestWithoutPower(t *testing.T) {
	d := made(t, 16)
	d.Write(1, filled(1))
	d.Flush()
	d.Write(2, filled(2))
	d.Fuse(0)
	d.Flush()
	told(t, "Rot", d.Rot(1, []byte{2}), api.OK)
	told(t, "Rot of none", d.Rot(16, []byte{2}), api.ErrArg)
	told(t, "Rot by a long mask", d.Rot(1, make([]byte, 257)), api.ErrArg)
	bad := filled(1)
	bad[0] = 3
	lies(t, "power off", d, 1, bad)
	lies(t, "power off", d, 2, filled(0))
	if d.Len() != 16 || d.Waits() != 1 {
		t.Errorf("power off: %d sectors, %d wait", d.Len(), d.Waits())
	}
	isDown(t, "power off", d)
	d.Crash(nil)
	reads(t, "behind a crash", d, 1, bad)
}

// P4.1, D2: a crash puts the power on and takes the fuse away, burnt or not.
func TestCrashTakesTheFuse(t *testing.T) {
	for f := range 4 {
		for spent := range 6 {
			d := made(t, 16)
			d.Fuse(f)
			for range spent {
				d.Write(1, filled(1))
			}
			d.Crash(nil)
			isUp(t, "behind a crash", d)
			for range 20 {
				told(t, "Write", d.Write(1, filled(1)), api.OK)
				told(t, "Flush", d.Flush(), api.OK)
			}
		}
	}
}

// P4.1, D2: a later fuse stands in the place of the earlier one, and is counted from its own call on.
func TestFuseAnew(t *testing.T) {
	for _, x := range [][2]int{{1, 3}, {3, 1}, {0, 2}, {2, 0}, {5, 5}} {
		d := made(t, 16)
		d.Fuse(x[0])
		if x[0] > 0 {
			told(t, "Write", d.Write(0, filled(1)), api.OK)
		}
		d.Fuse(x[1])
		for range x[1] {
			told(t, "within the later one", d.Write(0, filled(1)), api.OK)
		}
		told(t, "behind it", d.Write(0, filled(1)), api.ErrDown)
		isDown(t, "behind it", d)
	}
}

// P4.1, D2: with the power off a fuse doesn't put it on; the crash takes that fuse away too.
func TestFuseWithoutPower(t *testing.T) {
	d := made(t, 16)
	d.Fuse(0)
	d.Flush()
	for _, f := range []int{5, 0, -1, math.MaxInt} {
		d.Fuse(f)
		isDown(t, "a fuse without power", d)
	}
	d.Fuse(1)
	d.Crash(nil)
	for range 5 {
		told(t, "Flush", d.Flush(), api.OK)
	}
}

// P4.1, R1: on a nil disk: 0, ErrDown, nothing, whatever is handed in.
func TestNilDisk(t *testing.T) {
	var d *disk.Disk
	d.Fuse(3)
	d.Fuse(-3)
	d.Crash(nil)
	d.Crash([]int{1, 2, 3})
	if d.Len() != 0 || d.Waits() != 0 || len(d.Dump()) != 0 {
		t.Errorf("nil: %d, %d, %v", d.Len(), d.Waits(), d.Dump())
	}
	isDown(t, "nil", d)
	for _, mask := range [][]byte{nil, {1}, make([]byte, 257)} {
		for _, i := range []int{0, -1, 16} {
			told(t, "nil: Rot", d.Rot(i, mask), api.ErrDown)
		}
	}
}

// R1: a Disk that New did not make has no sectors; no call on it panics.
func TestZeroDisk(t *testing.T) {
	d := &disk.Disk{}
	if d.Len() != 0 || d.Waits() != 0 || len(d.Dump()) != 0 {
		t.Errorf("zero: %d, %d, %v", d.Len(), d.Waits(), d.Dump())
	}
	for _, i := range []int{-1, 0, 1} {
		if b, e := d.Read(i); len(b) != 0 || e != api.ErrArg {
			t.Errorf("zero: Read(%d): %v, %d", i, b, e)
		}
		told(t, "zero: Write", d.Write(i, filled(1)), api.ErrArg)
		told(t, "zero: Rot", d.Rot(i, nil), api.ErrArg)
	}
	told(t, "zero: Flush", d.Flush(), api.OK)
	d.Crash([]int{1})
	d.Fuse(0)
	told(t, "zero: Flush", d.Flush(), api.ErrDown)
}

// P4.2: what was flushed stays, behind any crash, with any writes of other sectors waiting, with a fuse or without.
func TestFlushedStays(t *testing.T) {
	for _, keep := range [][]int{nil, {0}, {256}, {-1, 300}, {1, 2, 3, 4, 5, 6, 7, 8, 9, 10, 11, 12}, slices.Repeat([]int{256}, 100)} {
		for f := -1; f < 12; f++ {
			d := made(t, 16)
			for i := range 8 {
				d.Write(i, striped(byte(i+1)))
			}
			told(t, "Flush", d.Flush(), api.OK)
			if f >= 0 {
				d.Fuse(f)
			}
			for i := range 10 {
				d.Write(8+i%8, striped(byte(i+50)))
			}
			d.Crash(keep)
			d.Crash(keep)
			for i := range 8 {
				reads(t, "flushed", d, i, striped(byte(i+1)))
				lies(t, "flushed", d, i, striped(byte(i+1)))
			}
		}
	}
}

// P4.2: of a flushed sector, over which a write waits, stays what the crash doesn't keep of that; what rots is as it rots.
func TestFlushedStaysBelow(t *testing.T) {
	d := made(t, 16)
	d.Write(6, striped(1))
	d.Flush()
	for n := 255; n >= 0; n-- {
		d.Write(6, filled(byte(n)))
		d.Crash([]int{0})
		reads(t, "flushed", d, 6, striped(1))
	}
	d.Rot(6, []byte{0, 16})
	d.Crash([]int{256})
	want := striped(1)
	want[1] ^= 16
	reads(t, "rotten", d, 6, want)
	d.Write(6, filled(200))
	d.Crash([]int{40})
	reads(t, "in part", d, 6, slices.Concat(filled(200)[:40], want[40:]))
}

// model is a disk as the chapter's words have it, worked out anew from whole sectors at each call.
type model struct {
	on    [][]byte
	at    []int
	bytes [][]byte
	off   bool
	fuse  int // -1: none
}

func newModel(n int) *model {
	m := &model{fuse: -1}
	for range n {
		m.on = append(m.on, make([]byte, api.Sector))
	}
	return m
}

// done tells whether a call that would be done is.
func (m *model) done() bool {
	if m.fuse == 0 {
		m.off = true
	}
	if m.fuse > 0 {
		m.fuse--
	}
	return !m.off
}

func (m *model) read(i int) ([]byte, api.Errno) {
	if m.off {
		return nil, api.ErrDown
	}
	if i < 0 || i >= len(m.on) {
		return nil, api.ErrArg
	}
	out := m.on[i]
	for k, at := range m.at {
		if at == i {
			out = m.bytes[k]
		}
	}
	return out, api.OK
}

func (m *model) write(i int, b []byte) api.Errno {
	switch {
	case m.off:
		return api.ErrDown
	case i < 0 || i >= len(m.on) || len(b) != api.Sector:
		return api.ErrArg
	case !m.done():
		return api.ErrDown
	}
	m.at, m.bytes = append(m.at, i), append(m.bytes, b)
	return api.OK
}

func (m *model) flush() api.Errno {
	if m.off || !m.done() {
		return api.ErrDown
	}
	m.take(slices.Repeat([]int{api.Sector}, len(m.at)))
	return api.OK
}

func (m *model) take(keep []int) {
	for k, at := range m.at {
		n := 0
		if k < len(keep) {
			n = keep[k]
		}
		for j := 0; j < n && j < api.Sector; j++ {
			m.on[at][j] = m.bytes[k][j]
		}
	}
	m.at, m.bytes = nil, nil
}

func (m *model) crash(keep []int) {
	m.take(keep)
	m.off, m.fuse = false, -1
}

func (m *model) rot(i int, mask []byte) api.Errno {
	if i < 0 || i >= len(m.on) || len(mask) > api.Sector {
		return api.ErrArg
	}
	for j := range mask {
		m.on[i][j] ^= mask[j]
	}
	return api.OK
}

// pair is a disk and its model, which are done the same to.
type pair struct {
	t    *testing.T
	seed int64
	r    *rand.Rand
	d    *disk.Disk
	m    *model
}

// some are random bytes: mostly a sector, or at most one, as `whole` says; now and then a byte too many.
func (p *pair) some(whole bool) []byte {
	n := api.Sector
	switch {
	case p.r.Intn(12) == 0:
		n++
	case !whole || p.r.Intn(12) == 0:
		n = p.r.Intn(api.Sector + 1)
	}
	b := make([]byte, n)
	p.r.Read(b)
	return b
}

// sector is the number of a sector, of few, so that they meet; now and then of none.
func (p *pair) sector() int {
	if p.r.Intn(15) == 0 {
		return []int{-1, p.d.Len(), -p.r.Int(), p.r.Int()}[p.r.Intn(4)]
	}
	return []int{0, 1, 2, p.r.Intn(p.d.Len()), p.d.Len() - 1}[p.r.Intn(5)]
}

func (p *pair) keep() []int {
	out := make([]int, p.r.Intn(len(p.m.at)+3))
	for k := range out {
		out[k] = []int{0, 256, -p.r.Int(), p.r.Int(), p.r.Intn(300) - 20}[p.r.Intn(5)]
	}
	return out
}

// step does one thing to both.
func (p *pair) step() {
	var got, want api.Errno
	what := p.r.Intn(20)
	switch {
	case what < 9:
		i, b := p.sector(), p.some(true)
		got, want = p.d.Write(i, b), p.m.write(i, b)
	case what < 12:
		got, want = p.d.Flush(), p.m.flush()
	case what < 15:
		i, mask := p.sector(), p.some(false)
		got, want = p.d.Rot(i, mask), p.m.rot(i, mask)
	case what < 17:
		f := p.r.Intn(14) - 2
		p.d.Fuse(f)
		p.m.fuse = max(f, 0)
	case what < 19:
		keep := p.keep()
		p.d.Crash(keep)
		p.m.crash(keep)
	}
	if got != want {
		p.t.Fatalf("seed %d: a step of kind %d: %d, not %d", p.seed, what, got, want)
	}
}

// look holds all that can be told of both against each other.
func (p *pair) look() {
	if !bytes.Equal(p.d.Dump(), slices.Concat(p.m.on...)) || p.d.Waits() != len(p.m.at) || p.d.Len() != len(p.m.on) {
		p.t.Fatalf("seed %d: another disk, or %d wait, not %d", p.seed, p.d.Waits(), len(p.m.at))
	}
	for i := -1; i <= p.d.Len(); i++ {
		got, e := p.d.Read(i)
		want, f := p.m.read(i)
		if !bytes.Equal(got, want) || e != f {
			p.t.Fatalf("seed %d: Read(%d): %d, not %d, or other bytes", p.seed, i, e, f)
		}
	}
}

// P4.1, P4.2, R5: histories of all calls, held against the chapter's words step by step.
func TestHistories(t *testing.T) {
	for seed := range int64(60) {
		r := rand.New(rand.NewSource(seed))
		n := []int{16, 17, 40, 512}[seed%4]
		p := &pair{t: t, seed: seed, r: r, d: made(t, n), m: newModel(n)}
		for range 300 {
			p.step()
			p.look()
		}
	}
}

// P4.1: many waiting writes of one sector and of others; each of them has its own number in a crash.
func TestManyWaitingWrites(t *testing.T) {
	d := made(t, 16)
	const many = 20000
	keep := make([]int, many)
	for k := range many {
		told(t, "Write", d.Write(k%5, striped(byte(k))), api.OK)
		keep[k] = 0
	}
	waits(t, "many", d, many)
	reads(t, "many", d, (many-1)%5, striped(byte((many-1)%256)))
	keep[many-6] = 256
	keep[many-1] = 1
	d.Crash(keep)
	want := striped(byte((many - 6) % 256))
	want[0] = striped(byte((many - 1) % 256))[0]
	reads(t, "many", d, (many-1)%5, want)
	reads(t, "many", d, 0, filled(0))
}

// roomy is l with room behind its end, which nobody may write to.
func roomy[T byte | int](l []T) []T {
	out := make([]T, len(l), len(l)+300)
	copy(out, l)
	for i := range out[:cap(out)][len(l):] {
		out[:cap(out)][len(l)+i] = 77
	}
	return out
}

// same tells whether l is still roomy(want).
func same[T byte | int](l, want []T) bool {
	return slices.Equal(l[:cap(l)], roomy(want)[:cap(l)])
}

// R4: what is handed in is not changed, nor the room behind it.
func TestArgumentsStay(t *testing.T) {
	b, mask, short, keep := roomy(striped(1)), roomy(striped(2)), roomy([]byte{1, 2}), roomy([]int{-5, 300, 7})
	d := made(t, 16)
	d.Write(1, b)
	d.Write(2, b)
	d.Rot(1, mask)
	d.Rot(2, short)
	d.Write(3, short)
	d.Crash(keep)
	d.Write(1, b)
	d.Flush()
	d.Rot(1, mask)
	if !same(b, striped(1)) || !same(mask, striped(2)) || !same(short, []byte{1, 2}) || !same(keep, []int{-5, 300, 7}) {
		t.Error("what was handed in was changed")
	}
}

// R4: what is handed in is not kept: a caller may change it then.
func TestArgumentsAreNotKept(t *testing.T) {
	d := made(t, 16)
	b := roomy(striped(1))
	d.Write(1, b)
	clear(b[:cap(b)])
	reads(t, "what waits", d, 1, striped(1))
	d.Flush()
	reads(t, "what is flushed", d, 1, striped(1))
	mask := roomy([]byte{9})
	d.Rot(1, mask)
	mask[0] = 200
	want := striped(1)
	want[0] ^= 9
	reads(t, "what rots", d, 1, want)
	b = striped(2)
	d.Write(2, b)
	d.Write(3, b)
	b[0] = 250
	d.Crash([]int{256, 256})
	reads(t, "what a crash keeps", d, 2, striped(2))
	reads(t, "what a crash keeps", d, 3, striped(2))
}

// R4: answers are new memory, their spare room too: whatever is done to them, the disk and the other ones stay.
func TestAnswersAreNew(t *testing.T) {
	d := made(t, 16)
	for i := range 16 {
		d.Write(i, striped(byte(i)))
	}
	d.Flush()
	d.Write(4, striped(100))
	d.Write(5, striped(101))
	whole := d.Dump()
	ask := func() [][]byte {
		out := [][]byte{d.Dump()}
		for _, i := range []int{3, 4, 5, 6} {
			b, _ := d.Read(i)
			out = append(out, b)
		}
		return out
	}
	want, first, second := ask(), ask(), ask()
	for _, b := range first {
		b = b[:cap(b)]
		for j := range b {
			b[j] = 0xEE
		}
	}
	for k, b := range ask() {
		if !bytes.Equal(b, want[k]) || !bytes.Equal(second[k], want[k]) {
			t.Errorf("answer %d: shared", k)
		}
	}
	d.Flush()
	d.Rot(3, filled(1))
	d.Write(3, filled(0))
	d.Flush()
	for k, b := range second {
		if !bytes.Equal(b, want[k]) {
			t.Errorf("answer %d: a later call changed it", k)
		}
	}
	lies(t, "sector 4", d, 4, striped(100))
	if bytes.Equal(d.Dump(), whole) {
		t.Error("Dump told the same behind a change")
	}
}

// R5: two disks have nothing in common.
func TestDisksApart(t *testing.T) {
	a, b := made(t, 16), made(t, 16)
	a.Write(0, filled(1))
	a.Flush()
	a.Rot(1, filled(2))
	a.Write(2, filled(3))
	a.Fuse(0)
	a.Flush()
	reads(t, "the other one", b, 0, filled(0))
	told(t, "the other one", b.Flush(), api.OK)
	waits(t, "the other one", b, 0)
	if !bytes.Equal(b.Dump(), make([]byte, 16*api.Sector)) {
		t.Error("the other one was changed")
	}
}
