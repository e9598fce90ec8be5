package pen_test

import (
	"bytes"
	"encoding/binary"
	"hash/crc32"
	"math/rand"
	"strings"
	"testing"

	"horologe/api"
	"horologe/pen"
)

const most = 1 << 24 // bytes of a frame

// head tells a frame's head.
func head(length, sum uint32) []byte {
	return binary.BigEndian.AppendUint32(binary.BigEndian.AppendUint32(nil, length), sum)
}

// framed tells a frame as the promise says it, by the library's sum.
func framed(b []byte) []byte {
	return append(head(uint32(len(b)), crc32.ChecksumIEEE(b)), b...)
}

// refused asks for an error, and for zero values beside it.
func refused(t *testing.T, what string, b []byte, want api.Errno) {
	t.Helper()
	got, n, err := pen.Unframe(b)
	if err != want || n != 0 || len(got) != 0 {
		t.Errorf("%s: %d bytes, %d, %v; not %v alone", what, len(got), n, err, want)
	}
}

// taken asks for a frame's bytes, and how many the frame has.
func taken(t *testing.T, what string, b []byte, want string) {
	t.Helper()
	got, n, err := pen.Unframe(b)
	if err != api.OK || n != len(want)+8 || string(got) != want {
		t.Errorf("%s: %d bytes, %d, %v; not %d bytes", what, len(got), n, err, len(want))
	}
}

func TestP103FrameIsLengthSumBytes(t *testing.T) {
	for _, c := range []struct{ in, want string }{
		{"123456789", "\x00\x00\x00\x09\xCB\xF4\x39\x26123456789"}, // the chapter's example
		{"", "\x00\x00\x00\x00\x00\x00\x00\x00"},
		{"\x00", "\x00\x00\x00\x01\xD2\x02\xEF\x8D\x00"},
		{"a", "\x00\x00\x00\x01\xE8\xB7\xBE\x43a"},
		{"abc", "\x00\x00\x00\x03\x35\x24\x41\xC2abc"},
		{"\xFF\xFF\xFF\xFF", "\x00\x00\x00\x04\xFF\xFF\xFF\xFF\xFF\xFF\xFF\xFF"},
	} {
		if got := pen.Frame([]byte(c.in)); string(got) != c.want {
			t.Errorf("Frame(%x): %x, not %x", c.in, got, c.want)
		}
	}
	if got := pen.Frame(nil); string(got) != "\x00\x00\x00\x00\x00\x00\x00\x00" {
		t.Errorf("Frame(nil): %x", got)
	}
}

func TestP103FramesSumIsCRC32(t *testing.T) {
	for x := range 256 {
		b := []byte{byte(x)}
		if got := pen.Frame(b); !bytes.Equal(got, framed(b)) {
			t.Errorf("Frame(%x): %x, not %x", b, got, framed(b))
		}
	}
	draw := rand.New(rand.NewSource(103))
	for size := range 600 {
		b := make([]byte, size)
		draw.Read(b)
		if got := pen.Frame(b); !bytes.Equal(got, framed(b)) {
			t.Errorf("Frame of %d bytes: head %x, not %x", size, got[:8], framed(b)[:8])
		}
	}
}

func TestP103UnframeTellsTheFirstFrame(t *testing.T) {
	for _, in := range []string{"", "a", "\x00", "123456789", strings.Repeat("long ", 20000)} {
		f := pen.Frame([]byte(in))
		taken(t, "alone", f, in)
		taken(t, "a byte behind it", append(bytes.Clone(f), 'x'), in)
		taken(t, "a frame behind it", append(bytes.Clone(f), pen.Frame([]byte("next"))...), in)
		taken(t, "a broken head behind it", append(bytes.Clone(f), "\xFF\xFF\xFF\xFF\xFF\xFF\xFF\xFF"...), in)
	}
}

func TestP103FramesOneBehindTheOther(t *testing.T) {
	words := []string{"one", "", "two", "\x00\x00\x00\x00\x00\x00\x00\x00", ""}
	var all []byte
	for _, s := range words {
		all = append(all, pen.Frame([]byte(s))...)
	}
	for i, s := range words {
		got, n, err := pen.Unframe(all)
		if err != api.OK || string(got) != s {
			t.Fatalf("frame %d: %q, %v; not %q", i, got, err, s)
		}
		all = all[n:]
	}
	refused(t, "behind the last one", all, api.ErrCut)
}

func TestP103FewerThanEightBytes(t *testing.T) {
	for size := range 8 {
		refused(t, "zeros", make([]byte, size), api.ErrCut)
		refused(t, "a length that would be too long", bytes.Repeat([]byte{0xFF}, size), api.ErrCut)
	}
	refused(t, "nil", nil, api.ErrCut)
}

func TestP103LengthOf2To24AndAbove(t *testing.T) {
	b := make([]byte, most+1)
	for i := range b {
		b[i] = byte(i >> 3)
	}
	whole := pen.Frame(b[:most])
	if !bytes.Equal(whole, framed(b[:most])) {
		t.Errorf("Frame of 2^24 bytes: head %x", whole[:8])
	}
	taken(t, "2^24", whole, string(b[:most]))
	taken(t, "2^24 and more behind it", append(whole, 'x'), string(b[:most]))
	refused(t, "2^24, the last byte lacks", whole[:len(whole)-1], api.ErrCut)
	long := pen.Frame(b)
	if !bytes.Equal(long, framed(b)) {
		t.Errorf("Frame of 2^24 + 1 bytes: head %x", long[:8])
	}
	refused(t, "2^24 + 1, whole", long, api.ErrLong)
	refused(t, "2^24 + 1, a byte lacks", long[:len(long)-1], api.ErrLong)
	refused(t, "2^24 + 1, the head alone", long[:8], api.ErrLong)
	refused(t, "2^24 + 1, less than its head", long[:7], api.ErrCut)
	refused(t, "2^24, the head alone", head(most, 0), api.ErrCut)
	refused(t, "2^31", append(head(1<<31, 0), "abc"...), api.ErrLong)
	refused(t, "2^32 - 1", append(head(1<<32-1, 0), "abc"...), api.ErrLong)
}

func TestP103LackingBytesComeAheadOfTheSum(t *testing.T) {
	refused(t, "no byte of one", head(1, 0), api.ErrCut)
	refused(t, "one byte of two", append(head(2, 0), 'a'), api.ErrCut)
	refused(t, "the same, the sum of the one", append(head(2, crc32.ChecksumIEEE([]byte("a"))), 'a'), api.ErrCut)
	refused(t, "all bytes, another sum", append(head(2, 0), "ab"...), api.ErrSum)
}

func TestP103SumThatIsAnotherOne(t *testing.T) {
	refused(t, "of nothing", head(0, 1), api.ErrSum)
	refused(t, "of nothing, all bits turned over", head(0, 1<<32-1), api.ErrSum)
	f := pen.Frame([]byte("123456789"))
	for bit := 4 * 8; bit < len(f)*8; bit++ {
		g := bytes.Clone(f)
		g[bit/8] ^= 1 << (bit % 8)
		refused(t, "a bit turned over", g, api.ErrSum)
		refused(t, "a bit turned over, more behind it", append(g, "more"...), api.ErrSum)
	}
	shorter := bytes.Clone(f)
	shorter[3] = 8
	refused(t, "a length of one less", shorter, api.ErrSum)
	longer := append(bytes.Clone(f), 0)
	longer[3] = 10
	refused(t, "a length of one more", longer, api.ErrSum)
	taken(t, "a byte behind it alone", append(bytes.Clone(f), 1), "123456789")
}

func TestP2FrameIsTheCallers(t *testing.T) {
	in := roomy("abc")
	first, second := pen.Frame(in), pen.Frame(in)
	want := string(framed([]byte("abc")))
	if !sameRoomy(in, "abc") {
		t.Error("what was handed in was changed")
	}
	spoil(in)
	if string(first) != want {
		t.Error("what was answered changed with what was handed in")
	}
	in = roomy("abc")
	first = pen.Frame(in)
	spoil(first)
	if string(second) != want || string(pen.Frame(in)) != want || !sameRoomy(in, "abc") {
		t.Error("what was answered is shared")
	}
	nothing := pen.Frame(nil)
	spoil(nothing)
	if string(pen.Frame(nil)) != "\x00\x00\x00\x00\x00\x00\x00\x00" {
		t.Error("the frame of nothing is shared")
	}
}

func TestP2UnframesBytesAreTheCallers(t *testing.T) {
	for _, word := range []string{"abc", ""} {
		all := string(framed([]byte(word))) + "behind"
		in := roomy(all)
		first, n, err := pen.Unframe(in)
		second, _, _ := pen.Unframe(in)
		if n != len(word)+8 || err != api.OK || !sameRoomy(in, all) {
			t.Errorf("%q: %d, %v, or what was handed in was changed", word, n, err)
		}
		spoil(append(first, "over what was behind it"...))
		spoil(first)
		if string(second) != word || !sameRoomy(in, all) {
			t.Errorf("%q: what was answered is shared", word)
		}
		spoil(in)
		if string(second) != word {
			t.Errorf("%q: what was answered changed with what was handed in", word)
		}
	}
}

// unframed tells what Unframe is to answer, by the library's sum.
func unframed(b []byte) (string, int, api.Errno) {
	if len(b) < 8 {
		return "", 0, api.ErrCut
	}
	n := uint64(binary.BigEndian.Uint32(b))
	switch {
	case n > most:
		return "", 0, api.ErrLong
	case n > uint64(len(b))-8:
		return "", 0, api.ErrCut
	case crc32.ChecksumIEEE(b[8:8+n]) != binary.BigEndian.Uint32(b[4:]):
		return "", 0, api.ErrSum
	}
	return string(b[8 : 8+n]), int(8 + n), api.OK
}

func TestP1UnframeOfAnyBytes(t *testing.T) {
	draw := rand.New(rand.NewSource(1))
	told := map[api.Errno]int{}
	for round := range 30000 {
		b := make([]byte, draw.Intn(30))
		draw.Read(b)
		switch round % 3 {
		case 0: // a length that may be right
			for i := range min(3, len(b)) {
				b[i] = byte(draw.Intn(8) / 7)
			}
			if len(b) > 3 {
				b[3] %= 32
			}
		case 1: // a frame, one byte of it drawn anew
			b = append(framed(b), "more"[:draw.Intn(5)]...)
			b[draw.Intn(len(b))] = byte(draw.Intn(256))
		}
		want, count, fault := unframed(b)
		told[fault]++
		got, n, err := pen.Unframe(b)
		if string(got) != want || n != count || err != fault {
			t.Fatalf("round %d: %x: %x, %d, %v; not %x, %d, %v", round, b, got, n, err, want, count, fault)
		}
	}
	for _, e := range []api.Errno{api.OK, api.ErrCut, api.ErrLong, api.ErrSum} {
		if told[e] == 0 {
			t.Errorf("%v was never asked for", e)
		}
	}
}

func FuzzUnframe(f *testing.F) {
	for _, s := range []string{"", "1234567", "\x01\x00\x00\x01\x00\x00\x00\x00", string(framed([]byte("abc"))) + "d"} {
		f.Add([]byte(s))
	}
	f.Fuzz(func(t *testing.T, b []byte) {
		want, count, fault := unframed(b)
		got, n, err := pen.Unframe(b)
		if string(got) != want || n != count || err != fault {
			t.Errorf("%x: %x, %d, %v; not %x, %d, %v", b, got, n, err, want, count, fault)
		}
	})
}
