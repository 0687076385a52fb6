package bank_test

import (
	"bytes"
	"crypto/sha256"
	"math"
	"math/rand"
	"slices"
	"testing"

	"cautery/api"
	"cautery/bank"
	"cautery/disk"
	"cautery/space"
)

// filled is a block of one byte.
func filled(c byte) []byte { return bytes.Repeat([]byte{c}, api.Sector) }

// striped is a block whose bytes all differ from their neighbours, by a number.
func striped(c byte) []byte {
	b := make([]byte, api.Sector)
	for i := range b {
		b[i] = c + byte(i)*7
	}
	return b
}

// summed is a block's hash, by the library.
func summed(b []byte) [32]byte { return sha256.Sum256(b) }

// made is a bank over a new disk and a new map.
func made(t *testing.T, n int, txg uint32) (*bank.Bank, *disk.Disk, *space.Map) {
	t.Helper()
	d, e := disk.New(n)
	m, f := space.New(n)
	if e != api.OK || f != api.OK {
		t.Fatalf("a disk and a map of %d: %d, %d", n, e, f)
	}
	return bank.Over(d, m, txg), d, m
}

// cut takes a disk's power.
func cut(d *disk.Disk) {
	d.Fuse(0)
	d.Flush()
}

// put puts a block, which must go well.
func put(t *testing.T, k *bank.Bank, b []byte, copies int) api.Ptr {
	t.Helper()
	p, e := k.Put(b, copies)
	if e != api.OK {
		t.Fatalf("Put of %d copies: %d", copies, e)
	}
	return p
}

// puts holds a Put against a pointer to that block.
func puts(t *testing.T, what string, k *bank.Bank, b []byte, copies int, at [2]uint32) api.Ptr {
	t.Helper()
	want := api.Ptr{Hash: summed(b), Birth: k.Txg(), At: at}
	p, e := k.Put(b, copies)
	if p != want || e != api.OK {
		t.Errorf("Put, %s: %v, %d, want %v", what, p, e, want)
	}
	return p
}

// putTells holds a Put against an error alone, which changes neither the map nor, but for what is told to wait, the disk.
func putTells(t *testing.T, what string, k *bank.Bank, d *disk.Disk, b []byte, copies int, want api.Errno, wait int) {
	t.Helper()
	was, had := k.Map().Bytes(), d.Waits()
	if p, e := k.Put(b, copies); p != (api.Ptr{}) || e != want {
		t.Errorf("Put, %s: %v, %d, want the error %d alone", what, p, e, want)
	}
	if !bytes.Equal(k.Map().Bytes(), was) || d.Waits() != had+wait {
		t.Errorf("Put, %s: the map is another, or %d wait, not %d", what, d.Waits(), had+wait)
	}
}

// reads holds a Read against a block.
func reads(t *testing.T, what string, k *bank.Bank, p api.Ptr, b []byte) {
	t.Helper()
	if got, e := k.Read(p); e != api.OK || !bytes.Equal(got, b) {
		t.Errorf("Read, %s: %d, %v", what, e, got)
	}
}

// readTells holds a Read against an error alone.
func readTells(t *testing.T, what string, k *bank.Bank, p api.Ptr, want api.Errno) {
	t.Helper()
	if b, e := k.Read(p); len(b) != 0 || e != want {
		t.Errorf("Read, %s: %v, %d, want the error %d alone", what, b, e, want)
	}
}

// looks holds a Look against what it must tell.
func looks(t *testing.T, what string, k *bank.Bank, p api.Ptr, good [2]bool, want api.Errno) {
	t.Helper()
	if got, e := k.Look(p); got != good || e != want {
		t.Errorf("Look, %s: %v, %d, want %v, %d", what, got, e, good, want)
	}
}

// heals holds a Heal against what it must tell.
func heals(t *testing.T, what string, k *bank.Bank, p api.Ptr, n int, want api.Errno) {
	t.Helper()
	if got, e := k.Heal(p); got != n || e != want {
		t.Errorf("Heal, %s: %d, %d, want %d, %d", what, got, e, n, want)
	}
}

// fixes holds a Fix against what it must tell.
func fixes(t *testing.T, what string, k *bank.Bank, p api.Ptr, b []byte, n int, want api.Errno) {
	t.Helper()
	if got, e := k.Fix(p, b); got != n || e != want {
		t.Errorf("Fix, %s: %d, %d, want %d, %d", what, got, e, n, want)
	}
}

// lies holds a sector, as the disk reads it, against b.
func lies(t *testing.T, what string, d *disk.Disk, i int, b []byte) {
	t.Helper()
	if got, e := d.Read(i); e != api.OK || !bytes.Equal(got, b) {
		t.Errorf("%s: the sector %d: %d, %v", what, i, e, got)
	}
}

// wrong are pointers that may not be.
func wrong() []api.Ptr {
	h := summed(filled(1))
	return []api.Ptr{
		{At: [2]uint32{0, 1}},
		{Hash: h, At: [2]uint32{0, 4}},
		{Hash: h, Birth: 7, At: [2]uint32{0, math.MaxUint32}},
		{Hash: h, Birth: 7, At: [2]uint32{4, 4}},
		{At: [2]uint32{9, 9}},
		{Hash: h, At: [2]uint32{math.MaxUint32, math.MaxUint32}},
	}
}

// absent are pointers with no place that are no hole.
func absent() []api.Ptr {
	return []api.Ptr{
		{Hash: summed(filled(1))},
		{Hash: summed(filled(1)), Birth: 7},
		{Hash: summed(filled(0))},
		{Birth: 1},
		{Birth: math.MaxUint32},
		{Hash: [32]byte{31: 1}},
	}
}

// P8.1, H1: the number and the map are those that were handed in, not copies.
func TestOver(t *testing.T) {
	for _, txg := range []uint32{0, 1, 7, 1 << 31, math.MaxUint32} {
		k, d, m := made(t, 16, txg)
		if k.Txg() != txg || k.Map() != m {
			t.Errorf("Over with %d: %d, %p of %p", txg, k.Txg(), k.Map(), m)
		}
		if _, e := m.Take(3); e != api.OK || k.Map().Free() != 9 {
			t.Errorf("the map is a copy: %d are free", k.Map().Free())
		}
		d.Write(5, filled(5))
		reads(t, "the disk is no copy", k, api.Ptr{Hash: summed(filled(5)), At: [2]uint32{5}}, filled(5))
		puts(t, "behind what others took", k, filled(6), 1, [2]uint32{7})
		if m.Free() != 8 || d.Waits() != 2 {
			t.Errorf("Put to copies: %d are free, %d wait", m.Free(), d.Waits())
		}
	}
}

// P8.1, H1, R1: a bank that lacks a part has what was handed in all the same.
func TestOverOfNothing(t *testing.T) {
	m, _ := space.New(16)
	d, _ := disk.New(16)
	if k := bank.Over(nil, m, 3); k.Txg() != 3 || k.Map() != m {
		t.Error("over no disk")
	}
	if k := bank.Over(d, nil, 4); k.Txg() != 4 || k.Map() != nil {
		t.Error("over no map")
	}
	if k := bank.Over(nil, nil, 5); k.Txg() != 5 || k.Map() != nil {
		t.Error("over nothing")
	}
	var none *bank.Bank
	if none.Txg() != 0 || none.Map() != nil {
		t.Error("no bank")
	}
}

// P8.1, H2, R1: without power, without a disk and without a bank all is ErrDown, whatever else is wrong; nothing changes.
func TestDownIsAheadOfAll(t *testing.T) {
	k, d, m := made(t, 16, 7)
	p := put(t, k, filled(1), 2)
	d.Flush()
	cut(d)
	var none *bank.Bank
	l := append(wrong(), absent()...)
	l = append(l, p, api.Ptr{}, api.Ptr{Hash: p.Hash, At: [2]uint32{90, 91}})
	for _, k := range []*bank.Bank{k, bank.Over(nil, m, 7), bank.Over(nil, nil, 7), bank.Over(d, nil, 7), none, {}} {
		for _, p := range l {
			readTells(t, "no power", k, p, api.ErrDown)
			looks(t, "no power", k, p, [2]bool{}, api.ErrDown)
			heals(t, "no power", k, p, 0, api.ErrDown)
			fixes(t, "no power", k, p, filled(1), 0, api.ErrDown)
			fixes(t, "no power, another hash", k, p, filled(2), 0, api.ErrDown)
			fixes(t, "no power, no block", k, p, nil, 0, api.ErrDown)
		}
		for _, copies := range []int{math.MinInt, -1, 0, 1, 2, 3, math.MaxInt} {
			putTells(t, "no power", k, d, filled(1), copies, api.ErrDown, 0)
			putTells(t, "no power, no block", k, d, nil, copies, api.ErrDown, 0)
		}
	}
	for range 5 {
		m.Take(2)
	}
	putTells(t, "no power, no room", k, d, filled(1), 1, api.ErrDown, 0)
	d.Crash(nil)
	reads(t, "power again", k, p, filled(1))
	looks(t, "power again", k, p, [2]bool{true, true}, api.OK)
}

// P8.1, H3: the sectors that Take tells, in order; the hash; the bank's number.
func TestPut(t *testing.T) {
	for _, txg := range []uint32{0, 1, 7, math.MaxUint32} {
		k, d, m := made(t, 20, txg)
		puts(t, "one", k, striped(1), 1, [2]uint32{4, 0})
		puts(t, "two", k, striped(2), 2, [2]uint32{5, 6})
		puts(t, "the same again", k, striped(1), 1, [2]uint32{7, 0})
		m.Give(5)
		puts(t, "where one was given", k, striped(3), 2, [2]uint32{5, 8})
		m.Give(4)
		m.Give(7)
		puts(t, "where two were given", k, striped(4), 2, [2]uint32{4, 7})
		if d.Waits() != 8 || m.Free() != 11 || !bytes.Equal(d.Dump(), make([]byte, 20*api.Sector)) {
			t.Errorf("%d wait, %d are free, or something is on the disk", d.Waits(), m.Free())
		}
		for i, c := range map[int]byte{4: 4, 5: 3, 6: 2, 7: 4, 8: 3} {
			lies(t, "put", d, i, striped(c))
		}
		for _, i := range []int{0, 1, 2, 3, 9, 19} {
			lies(t, "not put", d, i, filled(0))
		}
	}
}

// P8.1, H3: the first sector is written first.
func TestPutWritesInOrder(t *testing.T) {
	k, d, _ := made(t, 16, 7)
	put(t, k, striped(1), 2)
	d.Crash([]int{256, 9})
	lies(t, "the first one is whole", d, 4, striped(1))
	lies(t, "the second one is not", d, 5, append(striped(1)[:9], make([]byte, 247)...))
}

// P8.1, H3: a block of noughts is a block as any other, not a hole.
func TestPutOfNoughts(t *testing.T) {
	k, d, _ := made(t, 16, 0)
	p := puts(t, "noughts", k, filled(0), 2, [2]uint32{4, 5})
	reads(t, "noughts", k, p, filled(0))
	looks(t, "noughts", k, p, [2]bool{true, true}, api.OK)
	d.Flush()
	d.Rot(4, []byte{1})
	looks(t, "noughts", k, p, [2]bool{false, true}, api.OK)
	heals(t, "noughts", k, p, 1, api.OK)
}

// P8.1, H3: ErrArg of wrong lengths and of wrong counts, ahead of Take's error; nothing is spent of a fuse.
func TestPutTellsArguments(t *testing.T) {
	for _, full := range []bool{false, true} {
		k, d, m := made(t, 16, 7)
		for full && m.Free() > 0 {
			m.Take(1)
		}
		d.Fuse(1)
		for _, n := range []int{0, 1, 255, 257, 512, 5000} {
			putTells(t, "no block", k, d, make([]byte, n), 1, api.ErrArg, 0)
			putTells(t, "no block", k, d, make([]byte, n), 2, api.ErrArg, 0)
			putTells(t, "room for a block", k, d, make([]byte, min(n, 255), 256), 1, api.ErrArg, 0)
		}
		putTells(t, "nil", k, d, nil, 2, api.ErrArg, 0)
		for _, copies := range []int{math.MinInt, -2, -1, 0, 3, 4, 8, 9, math.MaxInt} {
			putTells(t, "copies", k, d, filled(1), copies, api.ErrArg, 0)
		}
		if d.Flush() != api.OK {
			t.Error("the fuse was spent")
		}
	}
}

// P8.1, H3: Take's error: ErrFull, where there are fewer, and what is left stays free.
func TestPutTellsFull(t *testing.T) {
	for _, n := range []int{16, 128, 512} {
		k, d, m := made(t, n, 7)
		for m.Free() > 1 {
			m.Take(1)
		}
		d.Fuse(2)
		putTells(t, "room for one", k, d, filled(1), 2, api.ErrFull, 0)
		p := puts(t, "room for one", k, filled(2), 1, [2]uint32{uint32(n - 1)})
		putTells(t, "no room for one", k, d, filled(3), 1, api.ErrFull, 0)
		putTells(t, "no room for two", k, d, filled(3), 2, api.ErrFull, 0)
		if d.Flush() != api.OK {
			t.Error("the fuse was spent")
		}
		reads(t, "the last one", k, p, filled(2))
	}
	d, _ := disk.New(16)
	putTells(t, "no map", bank.Over(d, nil, 7), d, filled(1), 1, api.ErrArg, 0)
	putTells(t, "a map without sectors", bank.Over(d, &space.Map{}, 7), d, filled(1), 1, api.ErrFull, 0)
}

// P8.1, H3: the disk's error, wherever the power goes: the map is as it was, and what was written ahead waits.
func TestPutTellsTheDisk(t *testing.T) {
	for copies := 1; copies <= 2; copies++ {
		for fuse := range 4 {
			k, d, m := made(t, 16, 7)
			p := put(t, k, filled(9), 1)
			d.Flush()
			m.Take(1)
			m.Give(p.At[0])
			d.Fuse(fuse)
			if fuse < copies {
				putTells(t, "a fuse", k, d, filled(1), copies, api.ErrDown, fuse)
				putTells(t, "behind it", k, d, filled(1), copies, api.ErrDown, 0)
			} else {
				puts(t, "a fuse", k, filled(1), copies, [2][2]uint32{{4, 0}, {4, 6}}[copies-1])
				if d.Waits() != copies {
					t.Errorf("%d wait", d.Waits())
				}
			}
			d.Crash(nil)
			reads(t, "behind a crash", k, p, filled(9))
		}
	}
}

// P8.1, H3, R2: a map may be longer than the disk: ErrArg then, and neither a write nor the fuse is spent.
func TestPutBeyondTheDisk(t *testing.T) {
	for copies := 1; copies <= 2; copies++ {
		for left := range copies {
			d, _ := disk.New(16)
			m, _ := space.New(32)
			for m.Free() > 16+left {
				m.Take(1)
			}
			k := bank.Over(d, m, 7)
			d.Fuse(1)
			putTells(t, "beyond the disk", k, d, filled(1), copies, api.ErrArg, 0)
			if d.Flush() != api.OK {
				t.Error("the fuse was spent")
			}
			d.Crash(nil)
			if left == 1 {
				puts(t, "the last one", k, filled(2), 1, [2]uint32{15})
			}
		}
	}
	d, _ := disk.New(16)
	m, _ := space.New(16)
	putTells(t, "no sectors", bank.Over(&disk.Disk{}, m, 7), d, filled(1), 1, api.ErrArg, 0)
}

// P8.1, H2: a hole reads 256 noughts, though it has no copy.
func TestReadOfAHole(t *testing.T) {
	k, d, _ := made(t, 16, 7)
	for i := range 16 {
		d.Write(i, filled(byte(i+1)))
	}
	reads(t, "a hole", k, api.Ptr{}, make([]byte, 256))
	looks(t, "a hole", k, api.Ptr{}, [2]bool{}, api.OK)
}

// P8.1, H2, H4: what may not be is ErrArg, what is absent is damaged.
func TestTellsPointers(t *testing.T) {
	k, d, m := made(t, 16, 7)
	for i := range 16 {
		d.Write(i, filled(1))
	}
	d.Fuse(0)
	was := m.Bytes()
	for _, p := range wrong() {
		readTells(t, "may not be", k, p, api.ErrArg)
		looks(t, "may not be", k, p, [2]bool{}, api.ErrArg)
		heals(t, "may not be", k, p, 0, api.ErrArg)
		fixes(t, "may not be", k, p, filled(1), 0, api.ErrArg)
		fixes(t, "may not be, another hash", k, p, filled(2), 0, api.ErrArg)
	}
	for _, p := range absent() {
		readTells(t, "absent", k, p, api.ErrDamaged)
		looks(t, "absent", k, p, [2]bool{}, api.OK)
		heals(t, "absent", k, p, 0, api.ErrDamaged)
		if p.Hash == summed(filled(1)) {
			fixes(t, "absent", k, p, filled(1), 0, api.OK)
		}
		fixes(t, "absent, another hash", k, p, filled(2), 0, api.ErrSum)
		fixes(t, "absent, no block", k, p, filled(1)[:255], 0, api.ErrArg)
	}
	if d.Waits() != 16 || !bytes.Equal(m.Bytes(), was) {
		t.Error("something changed")
	}
}

// places are pointers to a block: with one copy, with two, and with sectors that are not there; the sectors that are there are 6 and 9.
func places(b []byte) []api.Ptr {
	var l []api.Ptr
	for _, at := range [][2]uint32{
		{6, 0}, {6, 9}, {9, 6}, {9, 0},
		{16, 0}, {6, 16}, {16, 6}, {16, 17}, {9, math.MaxUint32}, {math.MaxUint32, 9}, {1 << 31, 0}, {6, 1<<31 + 9},
		{1<<31 + 6, 1<<16 + 6}, {256 + 6, 512 + 9},
	} {
		l = append(l, api.Ptr{Hash: summed(b), Birth: 3, At: at})
	}
	return l
}

// P8.1, H2: each copy right or not, in each place: the first one that is right is read.
func TestReadAndLook(t *testing.T) {
	b := striped(3)
	for _, p := range places(b) {
		for had := range 4 {
			k, d, _ := made(t, 16, 7)
			var good [2]bool
			for bit, i := range []int{6, 9} {
				if had>>bit&1 == 1 {
					d.Write(i, b)
					good[0] = good[0] || p.At[0] == uint32(i)
					good[1] = good[1] || p.At[1] == uint32(i)
				} else {
					d.Write(i, striped(byte(40+i)))
				}
			}
			d.Fuse(0)
			looks(t, "copies", k, p, good, api.OK)
			if good == [2]bool{} {
				readTells(t, "no copy", k, p, api.ErrDamaged)
			} else {
				reads(t, "a copy", k, p, b)
			}
			if d.Waits() != 2 {
				t.Error("reading writes")
			}
		}
	}
}

// P8.1, H2: the number of a pointer, and whether the map knows its sectors, is not asked; a label's sectors but 0 are sectors as others.
func TestReadAsksForTheHashAlone(t *testing.T) {
	k, d, _ := made(t, 16, 7)
	for _, i := range []int{1, 3, 15} {
		d.Write(i, striped(1))
		for _, birth := range []uint32{0, 6, 8, math.MaxUint32} {
			p := api.Ptr{Hash: summed(striped(1)), Birth: birth, At: [2]uint32{uint32(i)}}
			reads(t, "any number", k, p, striped(1))
			looks(t, "any number", k, p, [2]bool{true, false}, api.OK)
		}
	}
	d.Write(0, striped(2))
	readTells(t, "0 is no copy", k, api.Ptr{Hash: summed(striped(2))}, api.ErrDamaged)
	looks(t, "0 is no copy", k, api.Ptr{Hash: summed(striped(2))}, [2]bool{}, api.OK)
	looks(t, "0 is no copy", k, api.Ptr{Hash: summed(striped(2)), At: [2]uint32{1}}, [2]bool{}, api.OK)
}

// P8.1, H2: what waits is read, though what is on the disk rots below.
func TestReadsWhatWaits(t *testing.T) {
	k, d, _ := made(t, 16, 7)
	p := put(t, k, filled(1), 2)
	d.Rot(4, []byte{9})
	d.Rot(5, []byte{9})
	looks(t, "what waits", k, p, [2]bool{true, true}, api.OK)
	reads(t, "what waits", k, p, filled(1))
	d.Crash([]int{0, 256})
	looks(t, "what took hold", k, p, [2]bool{false, true}, api.OK)
	reads(t, "what took hold", k, p, filled(1))
}

// P8.1, H2: each single bit of a block that goes another way makes the copy wrong.
func TestEachBitMakesACopyWrong(t *testing.T) {
	k, d, _ := made(t, 16, 7)
	p := put(t, k, striped(5), 1)
	d.Flush()
	for i := range api.Sector * 8 {
		mask := make([]byte, i/8+1)
		mask[i/8] = 1 << (i % 8)
		d.Rot(4, mask)
		readTells(t, "a bit another way", k, p, api.ErrDamaged)
		d.Rot(4, mask)
	}
	reads(t, "all bits as they were", k, p, striped(5))
}

// P8.1, H4, P8.3: each copy right or not, in each place: what is healed has all copies right that there are, by as few writes as can be.
func TestHealAndFix(t *testing.T) {
	b := striped(3)
	for _, fix := range []bool{false, true} {
		for _, p := range places(b) {
			for had := range 4 {
				k, d, _ := made(t, 16, 7)
				there, right := [2]bool{}, 0
				for bit, i := range []int{6, 9} {
					for c := range there {
						there[c] = there[c] || p.At[c] == uint32(i)
					}
					if had>>bit&1 == 1 {
						d.Write(i, b)
						right += number(p.At[0] == uint32(i) || p.At[1] == uint32(i))
					} else {
						d.Write(i, striped(byte(40+i)))
					}
				}
				d.Flush()
				n := number(there[0]) + number(there[1]) - right
				d.Fuse(n)
				switch {
				case fix:
					fixes(t, "copies", k, p, b, n, api.OK)
					looks(t, "fixed", k, p, there, api.OK)
				case right == 0:
					heals(t, "no copy", k, p, 0, api.ErrDamaged)
					looks(t, "not healed", k, p, [2]bool{}, api.OK)
					n = 0
				default:
					heals(t, "copies", k, p, n, api.OK)
					looks(t, "healed", k, p, there, api.OK)
				}
				if d.Waits() != n {
					t.Errorf("%v: %d wait, not %d", p.At, d.Waits(), n)
				}
			}
		}
	}
}

// number is 1 for what is so, else 0.
func number(so bool) int {
	if so {
		return 1
	}
	return 0
}

// P8.1, H4: a hole heals 0, and can't be fixed.
func TestHealAndFixOfAHole(t *testing.T) {
	k, d, _ := made(t, 16, 7)
	d.Fuse(0)
	heals(t, "a hole", k, api.Ptr{}, 0, api.OK)
	fixes(t, "a hole", k, api.Ptr{}, filled(0), 0, api.ErrArg)
	fixes(t, "a hole", k, api.Ptr{}, filled(1), 0, api.ErrArg)
	fixes(t, "a hole", k, api.Ptr{}, nil, 0, api.ErrArg)
	if d.Waits() != 0 {
		t.Errorf("%d wait", d.Waits())
	}
}

// P8.1, H4: ErrArg of wrong lengths ahead of ErrSum, ErrSum of another hash, whether the copies are right or not.
func TestFixTells(t *testing.T) {
	for _, rotten := range []bool{false, true} {
		k, d, _ := made(t, 16, 7)
		p := put(t, k, striped(1), 2)
		d.Flush()
		if rotten {
			d.Rot(4, []byte{1})
			d.Rot(5, []byte{1})
		}
		d.Fuse(0)
		for _, n := range []int{0, 1, 255, 257, 512, 5000} {
			b := make([]byte, n)
			fixes(t, "no block", k, p, b, 0, api.ErrArg)
			// With the right hash of too few or too many bytes it is no block either.
			fixes(t, "no block, summed", k, api.Ptr{Hash: summed(b), At: p.At}, b, 0, api.ErrArg)
		}
		fixes(t, "nil", k, p, nil, 0, api.ErrArg)
		for i := range api.Sector {
			b := striped(1)
			b[i] ^= 128
			fixes(t, "another hash", k, p, b, 0, api.ErrSum)
		}
		if d.Waits() != 0 {
			t.Errorf("%d wait", d.Waits())
		}
		if !rotten {
			fixes(t, "all right", k, p, striped(1), 0, api.OK)
		}
	}
}

// P8.1, H4: Heal and Fix write where the pointer says, also where the map has nothing, and leave the map alone.
func TestHealAndFixLeaveTheMap(t *testing.T) {
	k, d, m := made(t, 16, 7)
	was := m.Bytes()
	p := api.Ptr{Hash: summed(striped(1)), Birth: 2, At: [2]uint32{9, 12}}
	fixes(t, "free sectors", k, p, striped(1), 2, api.OK)
	d.Flush()
	d.Rot(12, []byte{1})
	heals(t, "free sectors", k, p, 1, api.OK)
	none := bank.Over(d, nil, 0)
	d.Flush()
	d.Rot(9, []byte{1})
	heals(t, "no map", none, p, 1, api.OK)
	d.Flush()
	d.Rot(9, []byte{1})
	d.Rot(12, []byte{1})
	fixes(t, "no map", none, p, striped(1), 2, api.OK)
	looks(t, "no map", none, p, [2]bool{true, true}, api.OK)
	if !bytes.Equal(m.Bytes(), was) {
		t.Error("the map is another")
	}
	for i := range 16 {
		if i != 9 && i != 12 {
			lies(t, "another sector", d, i, filled(0))
		}
	}
}

// P8.1, H4: the disk's error, of the first write that has one, with 0; what was written ahead of it waits.
func TestHealAndFixTellTheDisk(t *testing.T) {
	for _, at := range [][2]uint32{{6, 9}, {9, 6}, {6, 16}, {16, 6}, {6, 0}} {
		for fuse := range 3 {
			p := api.Ptr{Hash: summed(striped(1)), At: at}
			n := 0
			for _, i := range at {
				n += number(i == 6 || i == 9)
			}
			k, d, _ := made(t, 16, 7)
			d.Fuse(fuse)
			if fuse < n {
				fixes(t, "a fuse", k, p, striped(1), 0, api.ErrDown)
			} else {
				fixes(t, "a fuse", k, p, striped(1), n, api.OK)
			}
			if d.Waits() != min(n, fuse) {
				t.Errorf("Fix at %v: %d wait", at, d.Waits())
			}
			d.Crash([]int{256})
			if fuse > 0 {
				lies(t, "the first one took hold", d, int(at[number(at[0] == 16)]), striped(1))
			}
		}
	}
	k, d, _ := made(t, 16, 7)
	p := put(t, k, striped(1), 2)
	d.Flush()
	for i := 4; i < 6; i++ {
		d.Rot(i, []byte{1})
		d.Fuse(0)
		heals(t, "a fuse", k, p, 0, api.ErrDown)
		heals(t, "no power", k, p, 0, api.ErrDown)
		if d.Waits() != 0 {
			t.Errorf("Heal: %d wait", d.Waits())
		}
		d.Crash(nil)
		d.Fuse(1)
		heals(t, "a fuse", k, p, 1, api.OK)
		d.Crash([]int{256})
	}
	// A sector that is not there spends nothing.
	gone := api.Ptr{Hash: p.Hash, At: [2]uint32{5, 16}}
	d.Fuse(0)
	heals(t, "a sector that is not there", k, gone, 0, api.OK)
	fixes(t, "a sector that is not there", k, gone, striped(1), 0, api.OK)
	reads(t, "the power is on", k, gone, striped(1))
}

// P8.1, example 1, and P8.3: of two sectors one rots: Heal writes 1, and then 0.
func TestHealWritesOne(t *testing.T) {
	for i := 4; i < 6; i++ {
		k, d, _ := made(t, 16, 7)
		p := put(t, k, striped(1), 2)
		d.Flush()
		heals(t, "nothing rotted", k, p, 0, api.OK)
		d.Rot(i, []byte{1})
		heals(t, "one rotted", k, p, 1, api.OK)
		if d.Waits() != 1 {
			t.Errorf("%d wait", d.Waits())
		}
		heals(t, "once more", k, p, 0, api.OK)
		d.Flush()
		d.Rot(9-i, []byte{1})
		reads(t, "by the copy that was healed", k, p, striped(1))
	}
}

// P8.2, P8.3: random histories, held step by step against what each sector holds.
func TestHistories(t *testing.T) {
	for seed := range int64(30) {
		history(t, rand.New(rand.NewSource(seed)))
	}
}

// kept is a pointer that was put, with its block.
type kept struct {
	p api.Ptr
	b []byte
}

// history puts, rots, crashes, heals and fixes by chance, and looks at all that was put behind each step.
func history(t *testing.T, r *rand.Rand) {
	t.Helper()
	n := 16 + r.Intn(60)
	k, d, m := made(t, n, r.Uint32())
	var all []kept
	for range 150 {
		switch r.Intn(7) {
		case 0, 1:
			b := striped(byte(r.Intn(256)))
			free := m.Free()
			copies := 1 + r.Intn(2)
			p, e := k.Put(b, copies)
			if e == api.ErrFull && free < copies {
				continue
			}
			if e != api.OK || p.Hash != summed(b) || p.Birth != k.Txg() || m.Free() != free-copies {
				t.Fatalf("Put: %v, %d", p, e)
			}
			all = append(all, kept{p, b})
		case 2:
			d.Flush()
		case 3:
			d.Crash([]int{r.Intn(300), r.Intn(300), r.Intn(300)})
		case 4:
			mask := make([]byte, 256)
			mask[r.Intn(256)] = byte(1 + r.Intn(255))
			d.Rot(r.Intn(n), mask)
		default:
			if len(all) > 0 {
				restore(t, r, k, d, all[r.Intn(len(all))])
			}
		}
		for _, x := range all {
			asFound(t, k, d, x)
		}
	}
}

// found tells which copies are right, sector by sector.
func found(d *disk.Disk, x kept) [2]bool {
	var good [2]bool
	for i, at := range x.p.At {
		b, e := d.Read(int(at))
		good[i] = at != 0 && e == api.OK && bytes.Equal(b, x.b)
	}
	return good
}

// asFound holds Look and Read against what the sectors hold.
func asFound(t *testing.T, k *bank.Bank, d *disk.Disk, x kept) {
	t.Helper()
	good := found(d, x)
	looks(t, "a history", k, x.p, good, api.OK)
	b, e := k.Read(x.p)
	if e == api.OK && summed(b) != x.p.Hash {
		t.Fatal("what is read has another hash")
	}
	if good == [2]bool{} {
		readTells(t, "a history", k, x.p, api.ErrDamaged)
	} else {
		reads(t, "a history", k, x.p, x.b)
	}
}

// restore heals or fixes one block, and holds that all its copies are right then.
func restore(t *testing.T, r *rand.Rand, k *bank.Bank, d *disk.Disk, x kept) {
	t.Helper()
	good, waits := found(d, x), d.Waits()
	there := [2]bool{true, x.p.At[1] != 0}
	bad := number(there[0] && !good[0]) + number(there[1] && !good[1])
	switch {
	case r.Intn(3) == 0:
		fixes(t, "a history", k, x.p, x.b, bad, api.OK)
	case good == [2]bool{}:
		heals(t, "a history", k, x.p, 0, api.ErrDamaged)
		there, bad = good, 0
	default:
		heals(t, "a history", k, x.p, bad, api.OK)
	}
	looks(t, "a history, restored", k, x.p, there, api.OK)
	if d.Waits() != waits+bad {
		t.Fatalf("%d wait, not %d", d.Waits(), waits+bad)
	}
}

// R4: what is handed in, and the room behind it, stays, and is not kept.
func TestArgumentsStay(t *testing.T) {
	k, d, _ := made(t, 16, 7)
	room := append(striped(1), 77, 77, 77)
	was := bytes.Clone(room)
	p := put(t, k, room[:256], 2)
	if !bytes.Equal(room, was) {
		t.Error("Put changed the block")
	}
	clear(room)
	reads(t, "the block was cleared", k, p, striped(1))
	d.Flush()
	d.Rot(4, []byte{1})
	d.Rot(5, []byte{1})
	copy(room, was)
	fixes(t, "both", k, p, room[:256], 2, api.OK)
	if !bytes.Equal(room, was) {
		t.Error("Fix changed the block")
	}
	clear(room)
	looks(t, "the block was cleared", k, p, [2]bool{true, true}, api.OK)
}

// R4: answers are new memory, their spare room too.
func TestAnswersAreApart(t *testing.T) {
	k, d, _ := made(t, 16, 7)
	p := put(t, k, striped(1), 2)
	for _, flush := range []bool{false, true} {
		if flush {
			d.Flush()
		}
		for _, p := range []api.Ptr{p, {}} {
			a, e := k.Read(p)
			if e != api.OK {
				t.Fatalf("Read: %d", e)
			}
			was := bytes.Clone(a)
			b, _ := k.Read(p)
			a = a[:cap(a)]
			for i := range a {
				a[i] ^= 255
			}
			if !slices.Equal(b, was) {
				t.Error("two answers share memory")
			}
			reads(t, "an answer was changed", k, p, was)
		}
	}
}

// R5: two banks over one disk and one map tell the same; two over disks and maps of their own know nothing of one another.
func TestAnswersHangOnDiskAndMap(t *testing.T) {
	k, d, m := made(t, 16, 7)
	other := bank.Over(d, m, 8)
	p := puts(t, "the first bank", k, striped(1), 2, [2]uint32{4, 5})
	q := puts(t, "the second bank", other, striped(1), 2, [2]uint32{6, 7})
	if p.Birth != 7 || q.Birth != 8 {
		t.Errorf("births %d, %d", p.Birth, q.Birth)
	}
	reads(t, "by the other one", other, p, striped(1))
	reads(t, "by the other one", k, q, striped(1))
	apart, _, _ := made(t, 16, 7)
	readTells(t, "another disk", apart, p, api.ErrDamaged)
	puts(t, "another disk", apart, striped(1), 2, [2]uint32{4, 5})
	for range 3 {
		reads(t, "again", k, p, striped(1))
		looks(t, "again", k, p, [2]bool{true, true}, api.OK)
	}
}
