package pen_test

import (
	"math/rand"
	"testing"

	"horologe/api"
	"horologe/pen"
)

// Kinds of items.
const (
	itemU8 = iota
	itemU32
	itemInt
	itemText
)

// item is one that is written, and read.
type item struct {
	kind int
	n    int
	s    string
}

func (x item) write(w *pen.Writer) {
	switch x.kind {
	case itemU8:
		w.U8(x.n)
	case itemU32:
		w.U32(x.n)
	case itemInt:
		w.Int(x.n)
	case itemText:
		w.Text(x.s)
	}
}

// read reads one of x's kind.
func (x item) read(r *pen.Reader) item {
	switch x.kind {
	case itemU8:
		x.n = r.U8()
	case itemU32:
		x.n = r.U32()
	case itemInt:
		x.n = r.Int()
	case itemText:
		x.s = r.Text()
	}
	return x
}

// size tells how many bytes it has.
func (x item) size() int {
	return []int{1, 4, 8, 4 + len(x.s)}[x.kind]
}

// drawn tells some items that are of the bounds of their kinds.
func drawn(draw *rand.Rand) []item {
	var l []item
	for range draw.Intn(12) {
		x := item{kind: draw.Intn(4)}
		switch x.kind {
		case itemU8:
			x.n = draw.Intn(1 << 8)
		case itemU32:
			x.n = draw.Intn(1 << 32)
		case itemInt:
			x.n = int(draw.Uint64()) >> draw.Intn(64)
		case itemText:
			b := make([]byte, draw.Intn(1<<draw.Intn(10)))
			draw.Read(b)
			x.s = string(b)
		}
		l = append(l, x)
	}
	return l
}

func bytesOf(l []item) []byte {
	w := pen.NewWriter()
	for _, x := range l {
		x.write(w)
	}
	return w.Done()
}

func TestP104WhatWasWrittenIsReadInOrder(t *testing.T) {
	draw := rand.New(rand.NewSource(104))
	for range 3000 {
		l := drawn(draw)
		b := bytesOf(l)
		r := pen.NewReader(b)
		at := 0
		for i, x := range l {
			if got := x.read(r); got != x {
				t.Fatalf("item %d: %v, not %v", i, got, x)
			}
			at += x.size()
			stands(t, "an item", r, at, len(b)-at, api.OK)
		}
		if r.Left() != 0 {
			t.Fatalf("%d bytes too many", r.Left())
		}
	}
}

func TestP104NumbersBeyondTheirKindAreReadModulo(t *testing.T) {
	w := pen.NewWriter()
	w.U8(-1)
	w.U8(256 + 7)
	w.U32(-1)
	w.U32(1<<32 + 7)
	w.Int(-1)
	r := pen.NewReader(w.Done())
	if a, b := r.U8(), r.U8(); a != 255 || b != 7 {
		t.Errorf("U8: %d, %d", a, b)
	}
	if a, b := r.U32(), r.U32(); a != 1<<32-1 || b != 7 {
		t.Errorf("U32: %d, %d", a, b)
	}
	if a := r.Int(); a != -1 {
		t.Errorf("Int: %d", a)
	}
	stands(t, "behind all", r, 18, 0, api.OK)
}

func TestP104AFrontIsReadUpToItsEnd(t *testing.T) {
	l := []item{{itemU8, 200, ""}, {itemText, 0, "ab"}, {itemInt, -5, ""}, {itemText, 0, ""}, {itemU32, 1 << 31, ""}}
	b := bytesOf(l)
	for cut := range len(b) {
		r := pen.NewReader(b[:cut])
		at := 0
		for i, x := range l {
			got := x.read(r)
			if at+x.size() <= cut {
				at += x.size()
				if got != x {
					t.Errorf("cut at %d: item %d: %v, not %v", cut, i, got, x)
				}
				stands(t, "a front", r, at, cut-at, api.OK)
				continue
			}
			if got != (item{kind: x.kind}) {
				t.Errorf("cut at %d: item %d: %v", cut, i, got)
			}
			ends(t, "behind a front", r, at, cut-at)
			break
		}
	}
}

func TestP104AFrameOfWhichTheEndLacks(t *testing.T) {
	draw := rand.New(rand.NewSource(8))
	for range 200 {
		in := bytesOf(drawn(draw))
		f := pen.Frame(in)
		taken(t, "whole", f, string(in))
		for cut := range f {
			refused(t, "its end lacks", f[:cut], api.ErrCut)
		}
	}
}

func TestP104FramesOfWhatWasWritten(t *testing.T) {
	l := []item{{itemText, 0, "a job"}, {itemInt, -1, ""}, {itemU8, 3, ""}}
	b, _, err := pen.Unframe(append(pen.Frame(bytesOf(l)), "behind it"...))
	if err != api.OK {
		t.Fatal(err)
	}
	r := pen.NewReader(b)
	for i, x := range l {
		if got := x.read(r); got != x {
			t.Errorf("item %d: %v, not %v", i, got, x)
		}
	}
	stands(t, "behind all", r, 18, 0, api.OK)
}
