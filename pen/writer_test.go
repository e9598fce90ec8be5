package pen_test

import (
	"bytes"
	"math"
	"strings"
	"testing"

	"horologe/pen"
)

// written tells the bytes of one call.
func written(call func(w *pen.Writer)) string {
	w := pen.NewWriter()
	call(w)
	return string(w.Done())
}

// spoil changes all of b, its spare room too.
func spoil(b []byte) {
	b = b[:cap(b)]
	for i := range b {
		b[i] ^= 0xA5
	}
}

// roomy tells s as bytes that have spare room behind them, filled with x.
func roomy(s string) []byte {
	return []byte(s + strings.Repeat("x", 20))[:len(s)]
}

// sameRoomy tells whether b, which roomy made of s, is as it was, its spare room too.
func sameRoomy(b []byte, s string) bool {
	return string(b) == s && string(b[:len(s)+20]) == s+strings.Repeat("x", 20)
}

func TestP101WritersU8IsOneByteModulo256(t *testing.T) {
	for _, c := range []struct {
		n    int
		want string
	}{
		{0, "\x00"}, {1, "\x01"}, {127, "\x7F"}, {128, "\x80"}, {255, "\xFF"},
		{256, "\x00"}, {258, "\x02"}, {1<<32 + 3, "\x03"},
		{-1, "\xFF"}, {-128, "\x80"}, {-255, "\x01"}, {-256, "\x00"},
		{math.MaxInt, "\xFF"}, {math.MinInt, "\x00"},
	} {
		if got := written(func(w *pen.Writer) { w.U8(c.n) }); got != c.want {
			t.Errorf("U8(%d): %x, not %x", c.n, got, c.want)
		}
	}
}

func TestP101WritersU32IsFourBytesModulo2To32(t *testing.T) {
	for _, c := range []struct {
		n    int
		want string
	}{
		{0, "\x00\x00\x00\x00"}, {1, "\x00\x00\x00\x01"}, {0x01020304, "\x01\x02\x03\x04"},
		{1<<31 - 1, "\x7F\xFF\xFF\xFF"}, {1 << 31, "\x80\x00\x00\x00"}, {1<<32 - 1, "\xFF\xFF\xFF\xFF"},
		{1 << 32, "\x00\x00\x00\x00"}, {1<<32 + 1, "\x00\x00\x00\x01"}, {1<<40 + 0x01020304, "\x01\x02\x03\x04"},
		{-1, "\xFF\xFF\xFF\xFF"}, {-2, "\xFF\xFF\xFF\xFE"}, {-1 << 32, "\x00\x00\x00\x00"},
		{math.MaxInt, "\xFF\xFF\xFF\xFF"}, {math.MinInt, "\x00\x00\x00\x00"},
	} {
		if got := written(func(w *pen.Writer) { w.U32(c.n) }); got != c.want {
			t.Errorf("U32(%d): %x, not %x", c.n, got, c.want)
		}
	}
}

func TestP101WritersIntIsEightBytes(t *testing.T) {
	for _, c := range []struct {
		n    int
		want string
	}{
		{0, "\x00\x00\x00\x00\x00\x00\x00\x00"}, {1, "\x00\x00\x00\x00\x00\x00\x00\x01"},
		{0x0102030405060708, "\x01\x02\x03\x04\x05\x06\x07\x08"}, {1 << 32, "\x00\x00\x00\x01\x00\x00\x00\x00"},
		{-1, "\xFF\xFF\xFF\xFF\xFF\xFF\xFF\xFF"}, {-2, "\xFF\xFF\xFF\xFF\xFF\xFF\xFF\xFE"},
		{-1 << 32, "\xFF\xFF\xFF\xFF\x00\x00\x00\x00"},
		{math.MaxInt, "\x7F\xFF\xFF\xFF\xFF\xFF\xFF\xFF"}, {math.MinInt, "\x80\x00\x00\x00\x00\x00\x00\x00"},
	} {
		if got := written(func(w *pen.Writer) { w.Int(c.n) }); got != c.want {
			t.Errorf("Int(%d): %x, not %x", c.n, got, c.want)
		}
	}
}

func TestP101WritersTextIsItsLengthAndItsBytes(t *testing.T) {
	long := strings.Repeat("0123456789", 30)
	longer := strings.Repeat("z", 1<<16+1)
	for _, c := range []struct{ s, want string }{
		{"ab", "\x00\x00\x00\x02ab"}, // the chapter's example
		{"", "\x00\x00\x00\x00"},
		{"\x00", "\x00\x00\x00\x01\x00"},
		{"\xFF\xC0", "\x00\x00\x00\x02\xFF\xC0"}, // no runes at all
		{"\u00E9\u20AC", "\x00\x00\x00\x05\xC3\xA9\xE2\x82\xAC"},
		{long, "\x00\x00\x01\x2C" + long},
		{longer, "\x00\x01\x00\x01" + longer},
	} {
		if got := written(func(w *pen.Writer) { w.Text(c.s) }); got != c.want {
			t.Errorf("Text of %d bytes: %.40x, not %.40x", len(c.s), got, c.want)
		}
	}
}

func TestP101WriterPutsBehindItsBytes(t *testing.T) {
	w := pen.NewWriter()
	if b := w.Done(); len(b) != 0 {
		t.Errorf("a new writer has %x", b)
	}
	w.Text("ab")
	w.U8(1)
	w.Text("")
	want := "\x00\x00\x00\x02ab\x01\x00\x00\x00\x00"
	if b := w.Done(); string(b) != want {
		t.Errorf("%x, not %x", b, want)
	}
	if b := w.Done(); string(b) != want {
		t.Errorf("Done again: %x, not %x", b, want)
	}
	w.Int(2)
	w.U32(3)
	want += "\x00\x00\x00\x00\x00\x00\x00\x02\x00\x00\x00\x03"
	if b := w.Done(); string(b) != want {
		t.Errorf("Done behind more: %x, not %x", b, want)
	}
}

func TestP101WritersAreApart(t *testing.T) {
	v, w := pen.NewWriter(), pen.NewWriter()
	v.U8(1)
	w.U8(2)
	v.U8(3)
	if string(v.Done()) != "\x01\x03" || string(w.Done()) != "\x02" {
		t.Errorf("%x, %x", v.Done(), w.Done())
	}
}

func TestP2WhatDoneAnsweredIsTheCallers(t *testing.T) {
	for size := range 70 {
		w := pen.NewWriter()
		for i := range size {
			w.U8(i)
		}
		first, second := w.Done(), w.Done()
		want := string(first)
		spoil(first)
		if string(second) != want || string(w.Done()) != want {
			t.Fatalf("%d bytes: what was answered is shared", size)
		}
		w.U8(7)
		w.Text("behind")
		if string(second) != want {
			t.Fatalf("%d bytes: what was answered changed with the writer", size)
		}
		spoil(second)
		if want += "\x07\x00\x00\x00\x06behind"; string(w.Done()) != want {
			t.Fatalf("%d bytes: %x, not %x", size, w.Done(), want)
		}
	}
}

func TestP3SameWritesSameBytes(t *testing.T) {
	write := func() []byte {
		w := pen.NewWriter()
		for i := range 500 {
			w.U8(i)
			w.U32(-i)
			w.Int(i << 40)
			w.Text(strings.Repeat("t", i%9))
		}
		return w.Done()
	}
	if !bytes.Equal(write(), write()) {
		t.Error("the same calls answered two things")
	}
}
