package pen_test

import (
	"math"
	"math/rand"
	"strings"
	"testing"

	"horologe/api"
	"horologe/pen"
)

// stands asks a reader where it stands.
func stands(t *testing.T, what string, r *pen.Reader, at, left int, err api.Errno) {
	t.Helper()
	if r.At() != at || r.Left() != left || r.Err() != err {
		t.Errorf("%s: At %d, Left %d, Err %v; not %d, %d, %v", what, r.At(), r.Left(), r.Err(), at, left, err)
	}
}

// ends asks a reader that has failed: whatever it is asked, it answers zero values, and stays.
func ends(t *testing.T, what string, r *pen.Reader, at, left int) {
	t.Helper()
	stands(t, what, r, at, left, api.ErrCut)
	for range 2 {
		if n := r.U8(); n != 0 {
			t.Errorf("%s: then U8 %d", what, n)
		}
		stands(t, what+", then U8", r, at, left, api.ErrCut)
		if n := r.U32(); n != 0 {
			t.Errorf("%s: then U32 %d", what, n)
		}
		stands(t, what+", then U32", r, at, left, api.ErrCut)
		if n := r.Int(); n != 0 {
			t.Errorf("%s: then Int %d", what, n)
		}
		stands(t, what+", then Int", r, at, left, api.ErrCut)
		if s := r.Text(); s != "" {
			t.Errorf("%s: then Text %q", what, s)
		}
		stands(t, what+", then Text", r, at, left, api.ErrCut)
	}
}

func TestP102ReadersNumbers(t *testing.T) {
	u8 := func(r *pen.Reader) int { return r.U8() }
	u32 := func(r *pen.Reader) int { return r.U32() }
	whole := func(r *pen.Reader) int { return r.Int() }
	for _, c := range []struct {
		name string
		in   string
		read func(r *pen.Reader) int
		want int
	}{
		{"U8", "\x00", u8, 0}, {"U8", "\x01", u8, 1}, {"U8", "\x80", u8, 128}, {"U8", "\xFF", u8, 255},
		{"U32", "\x00\x00\x00\x00", u32, 0}, {"U32", "\x01\x02\x03\x04", u32, 0x01020304},
		{"U32", "\x80\x00\x00\x00", u32, 1 << 31}, {"U32", "\xFF\xFF\xFF\xFF", u32, 1<<32 - 1},
		{"Int", "\x00\x00\x00\x00\x00\x00\x00\x00", whole, 0},
		{"Int", "\x01\x02\x03\x04\x05\x06\x07\x08", whole, 0x0102030405060708},
		{"Int", "\x00\x00\x00\x00\xFF\xFF\xFF\xFF", whole, 1<<32 - 1},
		{"Int", "\xFF\xFF\xFF\xFF\xFF\xFF\xFF\xFF", whole, -1},
		{"Int", "\xFF\xFF\xFF\xFF\xFF\xFF\xFF\xFE", whole, -2},
		{"Int", "\x7F\xFF\xFF\xFF\xFF\xFF\xFF\xFF", whole, math.MaxInt},
		{"Int", "\x80\x00\x00\x00\x00\x00\x00\x00", whole, math.MinInt},
	} {
		r := pen.NewReader([]byte(c.in + "more"))
		stands(t, c.name+" ahead", r, 0, len(c.in)+4, api.OK)
		if got := c.read(r); got != c.want {
			t.Errorf("%s of %x: %d, not %d", c.name, c.in, got, c.want)
		}
		stands(t, c.name+" behind", r, len(c.in), 4, api.OK)
	}
}

func TestP102ReadersTexts(t *testing.T) {
	long := strings.Repeat("0123456789", 30)
	for _, c := range []struct{ in, want string }{
		{"\x00\x00\x00\x02ab", "ab"},
		{"\x00\x00\x00\x00", ""},
		{"\x00\x00\x00\x01\x00", "\x00"},
		{"\x00\x00\x00\x02\xFF\xC0", "\xFF\xC0"},
		{"\x00\x00\x01\x2C" + long, long},
	} {
		r := pen.NewReader([]byte(c.in + "more"))
		if got := r.Text(); got != c.want {
			t.Errorf("Text of %x: %q, not %q", c.in, got, c.want)
		}
		stands(t, "Text", r, len(c.in), 4, api.OK)
		r = pen.NewReader([]byte(c.in))
		if got := r.Text(); got != c.want {
			t.Errorf("Text of just %x: %q, not %q", c.in, got, c.want)
		}
		stands(t, "Text, at the end", r, len(c.in), 0, api.OK)
	}
}

func TestP102ReaderOneBehindTheOther(t *testing.T) {
	r := pen.NewReader([]byte("\x02\x01\x02\x03\x04\xFF\xFF\xFF\xFF\xFF\xFF\xFF\xFE\x00\x00\x00\x02ab\x00\x00\x00\x00\x09"))
	stands(t, "new", r, 0, 24, api.OK)
	if n := r.U8(); n != 2 {
		t.Errorf("U8: %d", n)
	}
	stands(t, "U8", r, 1, 23, api.OK)
	if n := r.U32(); n != 0x01020304 {
		t.Errorf("U32: %d", n)
	}
	stands(t, "U32", r, 5, 19, api.OK)
	if n := r.Int(); n != -2 {
		t.Errorf("Int: %d", n)
	}
	stands(t, "Int", r, 13, 11, api.OK)
	if s := r.Text(); s != "ab" {
		t.Errorf("Text: %q", s)
	}
	stands(t, "Text", r, 19, 5, api.OK)
	if s := r.Text(); s != "" {
		t.Errorf("Text of nothing: %q", s)
	}
	stands(t, "Text of nothing", r, 23, 1, api.OK)
	if n := r.U8(); n != 9 {
		t.Errorf("last U8: %d", n)
	}
	stands(t, "last U8", r, 24, 0, api.OK) // the end alone is no error
	if n := r.U8(); n != 0 {
		t.Errorf("U8 behind the end: %d", n)
	}
	ends(t, "behind the end", r, 24, 0)
}

func TestP102NumbersOfWhichBytesLack(t *testing.T) {
	for _, c := range []struct {
		name string
		size int
		read func(r *pen.Reader) int
	}{
		{"U8", 1, func(r *pen.Reader) int { return r.U8() }},
		{"U32", 4, func(r *pen.Reader) int { return r.U32() }},
		{"Int", 8, func(r *pen.Reader) int { return r.Int() }},
	} {
		for left := range c.size {
			r := pen.NewReader([]byte("q" + strings.Repeat("\x01", left)))
			if r.U8() != 'q' {
				t.Error("q lacks")
			}
			if n := c.read(r); n != 0 {
				t.Errorf("%s of %d bytes: %d", c.name, left, n)
			}
			ends(t, c.name, r, 1, left)
		}
	}
}

func TestP102TextsOfWhichBytesLack(t *testing.T) {
	for _, in := range []string{
		"", "\x00", "\x00\x00", "\x00\x00\x00", // of the length itself
		"\x00\x00\x00\x01", "\x00\x00\x00\x02c", "\x00\x00\x00\x0Celeven byte",
		"\x00\x00\x01\x00\x01\x02\x03\x04",
		"\x7F\xFF\xFF\xFF\x01\x02\x03", "\x80\x00\x00\x00\x01\x02\x03", "\xFF\xFF\xFF\xFF\x01\x02\x03",
	} {
		r := pen.NewReader([]byte("q" + in))
		if r.U8() != 'q' {
			t.Error("q lacks")
		}
		if s := r.Text(); s != "" {
			t.Errorf("Text of %x: %q", in, s)
		}
		ends(t, "Text", r, 1, len(in)) // the length that was told is not read either
	}
}

func TestP102NoBytes(t *testing.T) {
	for _, in := range [][]byte{nil, {}, []byte("abc")[:0]} {
		r := pen.NewReader(in)
		stands(t, "no bytes", r, 0, 0, api.OK)
		if s := r.Text(); s != "" {
			t.Errorf("Text of nothing at all: %q", s)
		}
		ends(t, "no bytes", r, 0, 0)
	}
}

func TestP102ReadersAreApart(t *testing.T) {
	in := []byte{1, 2, 3}
	q, r := pen.NewReader(in), pen.NewReader(in)
	if q.U8() != 1 || q.U8() != 2 || q.U32() != 0 || q.Err() != api.ErrCut {
		t.Error("the one")
	}
	stands(t, "the other", r, 0, 3, api.OK)
	if r.U8() != 1 || r.U8() != 2 || r.U8() != 3 || r.Err() != api.OK {
		t.Error("the other")
	}
}

func TestP2ReaderKeepsNothingOfWhatItWasHanded(t *testing.T) {
	text := "\x05\x00\x00\x00\x02ab\x01\x02\x03\x04\x00\x00\x00\x00\x00\x00\x00\x07"
	in := roomy(text)
	r := pen.NewReader(in)
	if r.U8() != 5 {
		t.Error("U8")
	}
	if !sameRoomy(in, text) {
		t.Error("what was handed in was changed")
	}
	spoil(in)
	s := r.Text()
	if s != "ab" || r.U32() != 0x01020304 || r.Int() != 7 || r.Left() != 0 || r.Err() != api.OK {
		t.Error("what was read changed with what was handed in")
	}
	if r.U8() != 0 || r.Err() != api.ErrCut {
		t.Error("spare room was read")
	}
	if s != "ab" {
		t.Error("what was answered changed")
	}
}

// model reads from bytes as the promise says it, without any state but these.
type model struct {
	b   string
	at  int
	err api.Errno
}

func (m *model) number(size int) uint64 {
	if m.err != api.OK || len(m.b)-m.at < size {
		m.err = api.ErrCut
		return 0
	}
	var n uint64
	for range size {
		n = n*256 + uint64(m.b[m.at])
		m.at++
	}
	return n
}

func (m *model) text() string {
	at := m.at
	n := int(m.number(4))
	if m.err != api.OK || len(m.b)-m.at < n {
		m.at, m.err = at, api.ErrCut
		return ""
	}
	m.at += n
	return m.b[m.at-n : m.at]
}

func TestP1ReadersOfAnyBytes(t *testing.T) {
	draw := rand.New(rand.NewSource(102))
	for round := range 20000 {
		in := make([]byte, draw.Intn(40))
		for i := range in {
			if draw.Intn(3) == 0 { // many zeros, so that lengths fit now and then
				in[i] = byte(draw.Intn(1 << draw.Intn(9)))
			}
		}
		r, m := pen.NewReader(in), &model{b: string(in)}
		for range 12 {
			ok := false
			switch draw.Intn(4) {
			case 0:
				ok = r.U8() == int(m.number(1))
			case 1:
				ok = r.U32() == int(m.number(4))
			case 2:
				ok = r.Int() == int(m.number(8))
			case 3:
				ok = r.Text() == m.text()
			}
			if !ok || r.At() != m.at || r.Left() != len(in)-m.at || r.Err() != m.err {
				t.Fatalf("round %d: %x: At %d, Left %d, Err %v; not At %d, Err %v", round, in, r.At(), r.Left(), r.Err(), m.at, m.err)
			}
		}
	}
}
