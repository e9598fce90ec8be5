package net_test

import (
	"bytes"
	"encoding/binary"
	"encoding/hex"
	"fmt"
	"math"
	"math/rand"
	"slices"
	"strings"
	"testing"

	"horologe/api"
	"horologe/net"
)

func TestP1501TheBytesOfAMessage(t *testing.T) {
	for _, x := range samples() {
		if b, err := net.Encode(x.msg); err != api.OK || !bytes.Equal(b, framed(x.in)) {
			t.Errorf("%s: %.300x, %v, not %.300x", x.what, b, err, framed(x.in))
		}
	}
}

// TestP1501BytesWrittenOut holds bytes, the sum too, against such as are not made by the tests' own means.
func TestP1501BytesWrittenOut(t *testing.T) {
	for _, x := range []struct {
		msg api.Msg
		hex string
	}{
		{api.Msg{Kind: api.MVoteReply, From: 258, To: -1, OK: true},
			"00000058 4d9940b9 02 0000000000000102 ffffffffffffffff 0000000000000000 0000000000000000 0000000000000000 00 0000000000000000 0000000000000000 01 0000000000000000 0000000000000000 0000000000000000 00 00000000"},
		{full(),
			"00000099 46cc0d5c 03 0000000000000001 0000000000000002 0000000000000003 0000000000000004 0000000000000005 02 0000000000000006 0000000000000007 02 00000002 6162 0000000000000008 0000000000000009 01 00000001 63 000000000000000a 000000000000000b 01 000000000000000c 000000000000000d 000000000000000e 02 000000000000000f 0000000000000010 00000004 736e6170"},
	} {
		b, err := net.Encode(x.msg)
		if want := strings.ReplaceAll(x.hex, " ", ""); err != api.OK || hex.EncodeToString(b) != want {
			t.Errorf("%x, %v, not %s", b, err, want)
		}
	}
}

// numbersOf tells the numbers of a message of one entry and one voter, by where they stand within its frame.
func numbersOf(m *api.Msg) map[int]*int {
	e := &m.Entries[0]
	return map[int]*int{1: &m.From, 9: &m.To, 17: &m.Term, 25: &m.Index, 33: &m.LogTerm, 42: &e.Index, 50: &e.Term, 63: &m.Commit, 71: &m.Seq, 80: &m.Match, 88: &m.Meta.Index, 96: &m.Meta.Term, 105: &m.Meta.Voters[0]}
}

func oneOfEach() api.Msg {
	return api.Msg{Kind: api.MSnap, Entries: make([]api.Entry, 1), Meta: api.Meta{Voters: make([]int, 1)}}
}

// TestP1501EachNumberStandsInItsPlace, whatever it is, and nothing else is changed by it.
func TestP1501EachNumberStandsInItsPlace(t *testing.T) {
	none := oneOfEach()
	blank := encodes(t, none)[8:]
	for at := range numbersOf(&none) {
		for _, n := range edges {
			m := oneOfEach()
			*numbersOf(&m)[at] = n
			want := bytes.Clone(blank)
			binary.BigEndian.PutUint64(want[at:], uint64(n))
			b := encodes(t, m)
			if !bytes.Equal(b, framed(want)) {
				t.Errorf("%d at %d: %x", n, at, b)
			}
			back, err := net.Parse(b)
			if err != api.OK {
				t.Errorf("%d at %d: %v", n, at, err)
			}
			isMsg(t, fmt.Sprint(n, " at ", at), back, m)
		}
	}
}

func TestP1501OKIsZeroOrOne(t *testing.T) {
	for ok, want := range map[bool]byte{false: 0, true: 1} {
		for kind := 1; kind <= 5; kind++ {
			in := encodes(t, api.Msg{Kind: kind, OK: ok})[8:]
			if in[0] != byte(kind) || in[okAt] != want || len(in) != bare {
				t.Errorf("kind %d: %x", kind, in)
			}
		}
	}
}

// refuses asks for an error, and no bytes beside it; or for bytes, if it is OK.
func refuses(t *testing.T, what string, m api.Msg, want api.Errno) {
	t.Helper()
	b, err := net.Encode(m)
	if err != want || (err == api.OK) != (len(b) > 0) {
		t.Errorf("%s: %.100x, %v, not %v", what, b, err, want)
	}
}

// TestP1501TheExample is the chapter's.
func TestP1501TheExample(t *testing.T) { refuses(t, "kind 0", api.Msg{}, api.ErrKind) }

func TestP1501NoSuchKind(t *testing.T) {
	for kind := 1; kind <= 5; kind++ {
		refuses(t, fmt.Sprint("kind ", kind), api.Msg{Kind: kind}, api.OK)
	}
	for _, kind := range []int{math.MinInt, -256, -255, -253, -1, 0, 6, 7, 255, 256, 257, 259, 261, 1 << 32, 1<<32 + 1, math.MaxInt} {
		refuses(t, fmt.Sprint("kind ", kind), api.Msg{Kind: kind}, api.ErrKind)
		m := full()
		m.Kind = kind
		refuses(t, fmt.Sprint("kind ", kind, " with fields"), m, api.ErrKind)
	}
}

// listed is a message of so many entries and voters.
func listed(entries, voters int) api.Msg {
	return api.Msg{Kind: api.MApp, Entries: make([]api.Entry, entries), Meta: api.Meta{Voters: make([]int, voters)}}
}

func TestP1501ListsThatAreTooLong(t *testing.T) {
	for _, n := range []int{1, 127, 128, 254, 255, 256, 257, 511, 512, 513, 1 << 16} {
		want := api.OK
		if n > 255 {
			want = api.ErrMany
		}
		refuses(t, fmt.Sprint(n, " entries"), listed(n, 0), want)
		refuses(t, fmt.Sprint(n, " voters"), listed(0, n), want)
		refuses(t, fmt.Sprint(n, " of both"), listed(n, n), want)
		refuses(t, fmt.Sprint(n, " entries, 255 voters"), listed(n, 255), want)
		refuses(t, fmt.Sprint("255 entries, ", n, " voters"), listed(255, n), want)
	}
	in := encodes(t, listed(255, 255))[8:]
	if len(in) != bare+255*21+255*8 || in[41] != 255 || in[83+255*21] != 255 {
		t.Errorf("%d bytes, %.50x", len(in), in)
	}
}

func TestP1501KindsOfEntries(t *testing.T) {
	for kind := range 256 {
		refuses(t, fmt.Sprint("kind ", kind), api.Msg{Kind: api.MApp, Entries: []api.Entry{{Kind: kind}}}, api.OK)
		if in := encodes(t, api.Msg{Kind: api.MVote, Entries: []api.Entry{{Kind: kind}}})[8:]; in[58] != byte(kind) {
			t.Errorf("kind %d: %x", kind, in)
		}
	}
	for _, kind := range []int{math.MinInt, -1 << 32, -256, -255, -1, 256, 257, 511, 512, 1 << 32, math.MaxInt} {
		for at := range 3 { // whichever entry it is
			m := api.Msg{Kind: api.MApp, Entries: make([]api.Entry, 3)}
			m.Entries[at].Kind = kind
			refuses(t, fmt.Sprint("kind ", kind, " of entry ", at), m, api.ErrKind)
		}
		m := listed(255, 0)
		m.Entries[254].Kind = kind
		refuses(t, fmt.Sprint("kind ", kind, " of the last of 255"), m, api.ErrKind)
	}
}

// lengthy are messages whose frame has just so many bytes more than those of one without their lists.
func lengthy(size int) map[string]api.Msg {
	zeros := make([]byte, size)
	half := size / 2
	m := map[string]api.Msg{
		"Data":           {Kind: api.MSnap, Data: zeros[bare:]},
		"an entry":       {Kind: api.MApp, Entries: []api.Entry{{Data: zeros[bare+21:]}}},
		"the last entry": {Kind: api.MApp, Entries: []api.Entry{{}, {}, {Data: zeros[bare+3*21:]}}},
		"voters, Data":   {Kind: api.MVote, Meta: api.Meta{Voters: make([]int, 255)}, Data: zeros[bare+255*8:]},
		"an entry, Data": {Kind: api.MAppReply, Entries: []api.Entry{{Data: zeros[:half]}}, Data: zeros[bare+21+half:]},
	}
	many := listed(255, 255)
	rest := size - bare - 255*21 - 255*8
	for i := range many.Entries {
		many.Entries[i].Data = zeros[:rest/255]
	}
	many.Entries[7].Data = zeros[:rest/255+rest%255]
	m["all lists"] = many
	return m
}

func TestP1501FramesThatAreTooLong(t *testing.T) {
	for what, m := range lengthy(most) {
		b := encodes(t, m)
		if len(b) != 8+most || binary.BigEndian.Uint32(b) != most {
			t.Errorf("%s: %d bytes, head %x", what, len(b), b[:8])
		}
		back, err := net.Parse(b)
		if err != api.OK || !net.Same(back, m) {
			t.Errorf("%s: %v, or not the same", what, err)
		}
	}
	for _, more := range []int{1, 2, 8, 21, 1000, most} {
		for what, m := range lengthy(most + more) {
			refuses(t, fmt.Sprint(what, ", ", more, " more"), m, api.ErrLong)
		}
	}
}

// TestP1501FarTooLong: one text in all entries, so that all bytes would be more than 2^32, and, modulo that, less than 2^24.
func TestP1501FarTooLong(t *testing.T) {
	text := make([]byte, 1<<32/255-30)
	m := listed(255, 0)
	for i := range m.Entries {
		m.Entries[i].Data = text
	}
	refuses(t, "just below 2^32", m, api.ErrLong)
	m.Data = make([]byte, 1<<14)
	refuses(t, "just above 2^32", m, api.ErrLong)
	m.Entries[200].Kind = 256
	refuses(t, "and no kind", m, api.ErrKind)
}

func TestP1501WhichErrorOfEncode(t *testing.T) {
	long := make([]byte, most)
	for what, spoil := range map[string]func(m *api.Msg){"entries": func(m *api.Msg) { m.Entries = append(m.Entries, make([]api.Entry, 256)...) }, "voters": func(m *api.Msg) { m.Meta.Voters = make([]int, 256) }} {
		m := full()
		m.Kind, m.Entries[0].Kind, m.Data = 6, -1, long
		spoil(&m)
		refuses(t, what+": all of them", m, api.ErrKind)
		m.Kind = 3
		refuses(t, what+": but the message's kind", m, api.ErrMany)
		m.Entries[0].Kind = 0
		refuses(t, what+": many and long", m, api.ErrMany)
		m.Data, m.Entries[0].Kind = nil, 256
		refuses(t, what+": many, and an entry's kind", m, api.ErrMany)
		m.Kind = 0
		refuses(t, what+": both kinds, many", m, api.ErrKind)
	}
	refuses(t, "an entry's kind, long", api.Msg{Kind: 3, Entries: []api.Entry{{Data: long}, {Kind: 256}}}, api.ErrKind)
	refuses(t, "an entry's kind, long behind it", api.Msg{Kind: 3, Entries: []api.Entry{{Kind: -1, Data: long}}, Data: long}, api.ErrKind)
	refuses(t, "the message's kind, long", api.Msg{Kind: -1, Data: long}, api.ErrKind)
	refuses(t, "long alone", api.Msg{Kind: 1, Data: long}, api.ErrLong)
}

// errorOf tells which error Encode is to answer, by the order in which the promise names them.
func errorOf(m api.Msg) api.Errno {
	size, kinds := bare+8*len(m.Meta.Voters)+len(m.Data), true
	for _, e := range m.Entries {
		size += 21 + len(e.Data)
		kinds = kinds && e.Kind == e.Kind&255
	}
	for _, x := range []struct {
		is  bool
		err api.Errno
	}{{m.Kind < 1 || m.Kind > 5, api.ErrKind}, {max(len(m.Entries), len(m.Meta.Voters)) > 255, api.ErrMany}, {!kinds, api.ErrKind}, {size > most, api.ErrLong}} {
		if x.is {
			return x.err
		}
	}
	return api.OK
}

func TestP1501DrawnErrorsOfEncode(t *testing.T) {
	r := rand.New(rand.NewSource(15011))
	zeros := make([]byte, most)
	told := map[api.Errno]int{}
	for range 3000 {
		m := drawnMsg(r)
		if r.Intn(4) == 0 {
			m.Kind = edges[r.Intn(len(edges))]
		}
		if r.Intn(4) == 0 {
			m.Entries = append(m.Entries, make([]api.Entry, 252+r.Intn(4))...)
		}
		if r.Intn(4) == 0 {
			m.Meta.Voters = append(m.Meta.Voters, make([]int, 252+r.Intn(4))...)
		}
		if n := len(m.Entries); n > 0 && r.Intn(3) == 0 {
			m.Entries[r.Intn(n)].Kind = edges[r.Intn(len(edges))]
		}
		if n := len(m.Entries); n > 0 && r.Intn(3) == 0 {
			m.Entries[r.Intn(n)].Data = zeros
		}
		if r.Intn(3) == 0 {
			m.Data = zeros
		}
		want := errorOf(m)
		refuses(t, "drawn", m, want)
		told[want]++
	}
	for _, err := range []api.Errno{api.OK, api.ErrKind, api.ErrMany, api.ErrLong} {
		if told[err] < 100 {
			t.Errorf("%v was told %d times", err, told[err])
		}
	}
}

func TestP1501EmptyListsHaveTheBytesOfNone(t *testing.T) {
	a := encodes(t, api.Msg{Kind: api.MSnap, Entries: []api.Entry{}, Meta: api.Meta{Voters: make([]int, 0, 4)}, Data: []byte{}})
	if b := encodes(t, api.Msg{Kind: api.MSnap}); !slices.Equal(a, b) {
		t.Errorf("%x, %x", a, b)
	}
	a = encodes(t, api.Msg{Kind: api.MApp, Entries: []api.Entry{{Data: []byte{}}}})
	if b := encodes(t, api.Msg{Kind: api.MApp, Entries: []api.Entry{{}}}); !slices.Equal(a, b) {
		t.Errorf("%x, %x", a, b)
	}
}
