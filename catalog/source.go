package catalog

import (
	"cautery/api"
	"cautery/num"
	"cautery/ptr"
)

const (
	// wholeSize is how many bytes a whole number has.
	wholeSize = 4
	// ptrSize is how many bytes a pointer has.
	ptrSize = 44
)

// source is what is left of bytes from which a state is taken part by part. A part that is not as it must be makes it wrong for good, so that one question behind the last part will do.
type source struct {
	left  []byte
	wrong bool
}

// state is the state that the bytes begin with; whether it may be is not asked.
func (f *source) state() api.State {
	var s api.State
	s.Next = f.whole()
	for range f.count(api.MaxSets) {
		s.Sets = append(s.Sets, f.set())
	}
	for range f.count(api.MaxLosses) {
		s.Losses = append(s.Losses, f.loss())
	}
	s.Cursor = f.whole()
	s.Inbox = f.pointer()
	return s
}

// set takes a dataset.
func (f *source) set() api.Set {
	var t api.Set
	t.ID = f.whole()
	t.Name = f.text()
	t.Head = f.pointer()
	for range f.count(api.MaxSnaps) {
		t.Snaps = append(t.Snaps, f.snap())
	}
	return t
}

// snap takes a snapshot.
func (f *source) snap() api.Snap {
	var n api.Snap
	n.Name = f.text()
	n.Txg = f.whole()
	n.Root = f.pointer()
	n.List = f.pointer()
	m := f.marks()
	n.Held = m&held != 0
	n.Bad = m&bad != 0
	return n
}

// loss takes a loss.
func (f *source) loss() api.Loss {
	var l api.Loss
	l.Set = f.whole()
	l.Snap = f.text()
	l.Cell = f.count(api.Cells - 1)
	copy(l.Hash[:], f.part(len(l.Hash)))
	return l
}

// whole takes a whole number.
func (f *source) whole() uint32 {
	n, _, e := num.Take32(f.part(wholeSize))
	f.must(e == api.OK)
	return n
}

// count takes a short number that is at most `most`. All limits are below 128, so a number of more than one byte is above them.
func (f *source) count(most int) int {
	n, _, e := num.Take(f.part(1))
	if e != api.OK || n > uint64(most) {
		f.must(false)
		return 0
	}
	return int(n)
}

// text takes a string that is no longer than a name.
func (f *source) text() string {
	return string(f.part(f.count(api.MaxName)))
}

// pointer takes a pointer.
func (f *source) pointer() api.Ptr {
	p, e := ptr.Decode(f.part(ptrSize))
	f.must(e == api.OK)
	return p
}

// marks takes a snapshot's byte, which is no more than both its marks.
func (f *source) marks() byte {
	m := f.part(1)[0]
	f.must(m <= held+bad)
	return m
}

// part takes n bytes. Where there are not so many, it answers noughts in their place, so that what takes a part need not ask.
func (f *source) part(n int) []byte {
	if n > len(f.left) {
		f.must(false)
		return make([]byte, n)
	}
	b := f.left[:n]
	f.left = f.left[n:]
	return b
}

// must makes the source wrong, if what must hold of a part does not.
func (f *source) must(is bool) {
	f.wrong = f.wrong || !is
}
