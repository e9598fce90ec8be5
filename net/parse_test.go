package net_test

import (
	"bytes"
	"encoding/binary"
	"fmt"
	"math/rand"
	"slices"
	"testing"

	"horologe/api"
	"horologe/net"
)

// parses asks for a message, with nothing else beside it.
func parses(t *testing.T, what string, b []byte, want api.Msg) {
	t.Helper()
	m, err := net.Parse(b)
	if err != api.OK {
		t.Errorf("%s: %v", what, err)
	}
	isMsg(t, what, m, want)
}

// wrong asks for an error, and for no message beside it.
func wrong(t *testing.T, what string, b []byte, want api.Errno) {
	t.Helper()
	m, err := net.Parse(b)
	if err != want {
		t.Errorf("%s: %v, not %v", what, err, want)
	}
	isMsg(t, what, m, api.Msg{})
}

// wrongIn asks for an error of bytes within a whole frame.
func wrongIn(t *testing.T, what string, in []byte, want api.Errno) {
	t.Helper()
	wrong(t, what, framed(in), want)
}

// places tells where bytes are to be cut: everywhere, but within long texts.
func places(b []byte) []int {
	var l []int
	for n := range b {
		if n < 200 || n > len(b)-200 || n%997 == 0 {
			l = append(l, n)
		}
	}
	return l
}

func TestP1501TheMessageOfBytes(t *testing.T) {
	for _, x := range samples() {
		parses(t, x.what, framed(x.in), x.msg)
	}
	longest := listed(255, 255)
	parses(t, "the longest lists", encodes(t, longest), longest)
}

func TestP1501FramesCutAtEveryPlace(t *testing.T) {
	for _, x := range samples() {
		b := framed(x.in)
		for _, n := range places(b) {
			wrong(t, fmt.Sprint(x.what, ", cut at ", n), b[:n], api.ErrCut)
			wrong(t, fmt.Sprint(x.what, ", cut at ", n, " without room"), b[:n:n], api.ErrCut)
		}
	}
	wrong(t, "nil", nil, api.ErrCut)
}

func TestP1501FramesThatUnframeRefuses(t *testing.T) {
	in := samples()[6].in
	head := func(length, sum uint32) []byte {
		return binary.BigEndian.AppendUint32(binary.BigEndian.AppendUint32(nil, length), sum)
	}
	for _, length := range []uint32{most + 1, most + 2, 1 << 25, 1 << 31, 1<<32 - 1} {
		wrong(t, "a length", slices.Concat(head(length, 0), in), api.ErrLong)
	}
	wrong(t, "the longest length", slices.Concat(head(most, 0), in), api.ErrCut)
	wrong(t, "a length of one more", slices.Concat(head(uint32(len(in))+1, 0), in), api.ErrCut)
	wrong(t, "a length of one less", slices.Concat(head(uint32(len(in))-1, 0), in), api.ErrSum)
	wrong(t, "another sum", slices.Concat(head(uint32(len(in)), 0), in), api.ErrSum)
	wrong(t, "another sum, more behind", slices.Concat(head(uint32(len(in)), 0), in, in), api.ErrSum)
	wrong(t, "another sum, no kind", slices.Concat(head(1, 0), []byte{0}), api.ErrSum)
	long := make([]byte, most+1)
	wrong(t, "a whole frame that is too long", framed(long), api.ErrLong)
	wrong(t, "a whole frame that is too long, more behind", append(framed(long), 0), api.ErrLong)
	wrong(t, "the longest frame, no kind", framed(long[:most]), api.ErrKind)
}

func TestP1501MoreBehindTheFrame(t *testing.T) {
	for _, x := range samples() {
		b := framed(x.in)
		for _, more := range [][]byte{{0}, {1}, {255}, b, make([]byte, 100), bytes.Repeat([]byte{255}, 9)} {
			wrong(t, x.what, slices.Concat(b, more), api.ErrMore)
		}
	}
	in := samples()[6].in
	for what, inner := range map[string][]byte{"nothing": nil, "no kind": {0}, "cut": in[:20], "more": append(slices.Clone(in), 0), "OK of 2": turned(in, fullOKAt, 2)} {
		wrong(t, what+" within, more behind", append(framed(inner), 0), api.ErrMore)
	}
}

// turned tells bytes of which one is another one.
func turned(b []byte, at int, by byte) []byte {
	b = slices.Clone(b)
	b[at] = by
	return b
}

func TestP1501MoreWithinTheFrame(t *testing.T) {
	for _, x := range samples() {
		for _, more := range [][]byte{{0}, {1}, {255}, x.in, make([]byte, 100)} {
			wrongIn(t, x.what, slices.Concat(x.in, more), api.ErrMore)
		}
	}
}

func TestP1501CutWithinTheFrame(t *testing.T) {
	for _, x := range samples() {
		for _, n := range places(x.in) {
			wrongIn(t, fmt.Sprint(x.what, ", cut at ", n), x.in[:n], api.ErrCut)
		}
	}
}

// TestP1501NoSuchKindInBytes: it does not matter what is behind, and whether anything is.
func TestP1501NoSuchKindInBytes(t *testing.T) {
	in := samples()[6].in
	for kind := range 256 {
		if kind >= 1 && kind <= 5 {
			m := full()
			m.Kind = kind
			parses(t, fmt.Sprint("kind ", kind), framed(turned(in, 0, byte(kind))), m)
			continue
		}
		for n := 1; n <= len(in); n++ {
			wrongIn(t, fmt.Sprint("kind ", kind, ", cut at ", n), turned(in[:n], 0, byte(kind)), api.ErrKind)
		}
		more := append(turned(in, 0, byte(kind)), 0)
		wrongIn(t, fmt.Sprint("kind ", kind, ", more behind"), more, api.ErrKind)
		more[fullOKAt] = 2
		wrongIn(t, fmt.Sprint("kind ", kind, ", OK of 2"), more, api.ErrKind)
	}
	wrongIn(t, "nothing within", nil, api.ErrCut)
}

// TestP1501OKThatIsNeither: bytes that end ahead of it are cut; what is behind it does not matter.
func TestP1501OKThatIsNeither(t *testing.T) {
	for _, x := range []struct {
		in []byte
		at int
	}{{samples()[0].in, okAt}, {samples()[5].in, okAt}, {samples()[6].in, fullOKAt}} {
		for ok := 2; ok < 256; ok++ {
			in := turned(x.in, x.at, byte(ok))
			for n := range len(in) + 1 {
				want := api.ErrBad
				if n <= x.at {
					want = api.ErrCut
				}
				wrongIn(t, fmt.Sprint("OK of ", ok, ", cut at ", n), in[:n], want)
			}
			wrongIn(t, fmt.Sprint("OK of ", ok, ", more behind"), append(in, 1), api.ErrBad)
		}
		for ok := range 2 {
			m, err := net.Parse(framed(turned(x.in, x.at, byte(ok))))
			if err != api.OK || m.OK != (ok == 1) {
				t.Errorf("OK of %d: %v, %v", ok, m.OK, err)
			}
		}
	}
}

// TestP1501LengthsThatBytesDoNotHave: such as say more than there is are cut, though other bytes follow.
func TestP1501LengthsThatBytesDoNotHave(t *testing.T) {
	head := laid(octet(3), 1, 2, 3, 4, 5)
	tail := laid(10, 11, octet(1), 12, 13, 14)
	for what, in := range map[string][]byte{
		"255 entries, none there":     slices.Concat(head, laid(octet(255))),
		"255 entries, one there":      slices.Concat(head, laid(octet(255), 1, 2, octet(0), ""), tail, laid(octet(0), "")),
		"two entries, one there":      slices.Concat(head, laid(octet(2), 1, 2, octet(0), "")),
		"a text of 2^32 - 1":          slices.Concat(head, laid(octet(1), 1, 2, octet(0), octet(255), octet(255), octet(255), octet(255)), tail, laid(octet(0), "")),
		"a text of 2^31":              slices.Concat(head, laid(octet(1), 1, 2, octet(0), octet(128), octet(0), octet(0), octet(0)), tail, laid(octet(0), "")),
		"255 voters, none there":      slices.Concat(head, laid(octet(0)), tail, laid(octet(255))),
		"three voters, two there":     slices.Concat(head, laid(octet(0)), tail, laid(octet(3), 1, 2, "")),
		"Data of 2^32 - 1":            slices.Concat(head, laid(octet(0)), tail, laid(octet(0), octet(255), octet(255), octet(255), octet(255), "more")),
		"Data of one more":            slices.Concat(head, laid(octet(0)), tail, laid(octet(0), octet(0), octet(0), octet(0), octet(4)), []byte("abc")),
		"an entry's bytes are OK's 2": slices.Concat(head, laid(octet(1), 2, 2, octet(2), octet(2), octet(2), octet(2), octet(2), 2, 2, octet(2))),
	} {
		wrongIn(t, what, in, api.ErrCut)
	}
}

// TestP1501KindsOfEntriesInBytes: each that a byte can say is taken.
func TestP1501KindsOfEntriesInBytes(t *testing.T) {
	in := samples()[6].in
	for kind := range 256 {
		m := full()
		m.Entries[0].Kind = kind
		parses(t, fmt.Sprint("kind ", kind), framed(turned(in, okAt, byte(kind))), m)
	}
}

// TestP1501BitsTurned: a bit that is turned within a frame is told by its sum, or its length.
func TestP1501BitsTurned(t *testing.T) {
	for _, x := range samples()[:7] {
		b := framed(x.in)
		for bit := range 8 * len(b) {
			spoilt := turned(b, bit/8, b[bit/8]^1<<(bit%8))
			_, want := parsed(spoilt)
			if want == api.OK || bit >= 32 && want != api.ErrSum {
				t.Fatalf("%s, bit %d: %v", x.what, bit, want)
			}
			wrong(t, fmt.Sprint(x.what, ", bit ", bit), spoilt, want)
		}
	}
}

// agrees holds Parse against the model, and Encode against Parse.
func agrees(t *testing.T, b []byte) api.Errno {
	t.Helper()
	was := slices.Clone(b)
	m, err := net.Parse(b)
	if !bytes.Equal(b, was) {
		t.Fatal("what was handed in is changed")
	}
	want, wantErr := parsed(b)
	if err != wantErr || !alike(m, want) {
		t.Fatalf("%x: %+v, %v, not %+v, %v", b, m, err, want, wantErr)
	}
	if err == api.OK {
		if again, err := net.Encode(m); err != api.OK || !bytes.Equal(again, b) {
			t.Fatalf("%x: %+v, whose bytes are %x, %v", b, m, again, err)
		}
	}
	return err
}

// spoilt turns, cuts, or lengthens bytes.
func spoilt(r *rand.Rand, b []byte) []byte {
	switch r.Intn(4) {
	case 0:
		b = b[:r.Intn(len(b)+1)]
	case 1:
		b = append(b, drawnData(r)...)
	}
	for range r.Intn(3) {
		if len(b) > 0 {
			b[r.Intn(len(b))] = byte(r.Intn(8))
		}
	}
	if r.Intn(5) == 0 && len(b) > okAt {
		b[okAt] = byte(r.Intn(4))
	}
	return b
}

// TestP1503DrawnBytes: bytes that were turned, those within a frame as well as those of it, are parsed as the model does; where they can be, they are encoded as the same.
func TestP1503DrawnBytes(t *testing.T) {
	r := rand.New(rand.NewSource(1503))
	told := map[api.Errno]int{}
	for range 20000 {
		in := spoilt(r, encodes(t, drawnMsg(r))[8:])
		told[agrees(t, framed(in))]++
		told[agrees(t, spoilt(r, framed(in)))]++
		in = make([]byte, r.Intn(30))
		r.Read(in)
		told[agrees(t, in)]++
	}
	for _, err := range []api.Errno{api.OK, api.ErrCut, api.ErrKind, api.ErrBad, api.ErrMore, api.ErrSum, api.ErrLong} {
		if told[err] < 100 {
			t.Errorf("%v was told %d times", err, told[err])
		}
	}
}

func TestP1503DrawnMessages(t *testing.T) {
	r := rand.New(rand.NewSource(15030))
	for range 5000 {
		m := drawnMsg(r)
		b := encodes(t, m)
		back, err := net.Parse(b)
		if err != api.OK || !alike(back, m) || !net.Same(back, m) {
			t.Fatalf("%+v: %+v, %v", m, back, err)
		}
		again := encodes(t, back)
		if !bytes.Equal(again, b) || agrees(t, b) != api.OK {
			t.Fatalf("%x, %x", b, again)
		}
		wrong(t, "cut", b[:r.Intn(len(b))], api.ErrCut)
		wrong(t, "more behind", append(b, byte(r.Intn(256))), api.ErrMore)
	}
}

func FuzzParse(f *testing.F) {
	for _, x := range samples()[:7] {
		f.Add(x.in)
	}
	f.Fuzz(func(t *testing.T, in []byte) {
		agrees(t, in)
		agrees(t, framed(in))
	})
}
