package net_test

import (
	"encoding/binary"
	"fmt"
	"hash/crc32"
	"math"
	"math/rand"
	"reflect"
	"strings"
	"testing"

	"horologe/api"
	"horologe/net"
)

// most is how many bytes a frame may have.
const most = 1 << 24

// bare is how many bytes a message has that has no entries, voters and Data; okAt is where its OK stands, fullOKAt where that of the full one does.
const (
	bare     = 88
	okAt     = 58
	fullOKAt = okAt + 2*21 + len("abc")
)

// edges are the ends of what a number may be, and such as one or four bytes say, or do not.
var edges = []int{math.MinInt, math.MinInt + 1, -1 << 32, -256, -2, -1, 0, 1, 2, 127, 128, 255, 256, 1<<31 - 1, 1 << 31, 1<<32 - 1, 1 << 32, 1 << 62, math.MaxInt - 1, math.MaxInt}

// octet is a number of one byte.
type octet int

// laid lays numbers (eight bytes; an octet: one) and texts (four bytes of a length, and it) one behind the other.
func laid(parts ...any) []byte {
	var b []byte
	for _, part := range parts {
		switch x := part.(type) {
		case octet:
			b = append(b, byte(x))
		case int:
			b = binary.BigEndian.AppendUint64(b, uint64(x))
		case string:
			b = append(binary.BigEndian.AppendUint32(b, uint32(len(x))), x...)
		}
	}
	return b
}

// framed lays bytes into a frame, by the library's sum.
func framed(b []byte) []byte {
	head := binary.BigEndian.AppendUint32(nil, uint32(len(b)))
	return append(binary.BigEndian.AppendUint32(head, crc32.ChecksumIEEE(b)), b...)
}

// sample is a message and the bytes within its frame.
type sample struct {
	what string
	msg  api.Msg
	in   []byte
}

// full is a message that has something in each of its fields.
func full() api.Msg {
	return api.Msg{Kind: api.MApp, From: 1, To: 2, Term: 3, Index: 4, LogTerm: 5,
		Entries: []api.Entry{{Index: 6, Term: 7, Kind: 2, Data: []byte("ab")}, {Index: 8, Term: 9, Kind: 1, Data: []byte("c")}},
		Commit:  10, Seq: 11, OK: true, Match: 12,
		Meta: api.Meta{Index: 13, Term: 14, Voters: []int{15, 16}}, Data: []byte("snap")}
}

// samples are messages of all kinds, with bytes that are written out.
func samples() []sample {
	long := strings.Repeat("\xff\x00", 35000)
	return []sample{
		{"a vote", api.Msg{Kind: api.MVote, From: 1, To: 2, Term: 3, Index: 4, LogTerm: 5},
			laid(octet(1), 1, 2, 3, 4, 5, octet(0), 0, 0, octet(0), 0, 0, 0, octet(0), "")},
		{"a vote's reply", api.Msg{Kind: api.MVoteReply, From: 1 << 30, Term: 1 << 62, OK: true},
			laid(octet(2), 1<<30, 0, 1<<62, 0, 0, octet(0), 0, 0, octet(1), 0, 0, 0, octet(0), "")},
		{"no entries", api.Msg{Kind: api.MApp, To: 6, Commit: 8, Seq: 9},
			laid(octet(3), 0, 6, 0, 0, 0, octet(0), 8, 9, octet(0), 0, 0, 0, octet(0), "")},
		{"entries", api.Msg{Kind: api.MApp, Index: 4, Entries: []api.Entry{{Index: 5, Term: 6, Data: []byte("ab")}, {Kind: 255}, {Index: -1, Term: -2, Kind: 1, Data: []byte{0}}}},
			laid(octet(3), 0, 0, 0, 4, 0, octet(3), 5, 6, octet(0), "ab", 0, 0, octet(255), "", -1, -2, octet(1), "\x00", 0, 0, octet(0), 0, 0, 0, octet(0), "")},
		{"an MApp's reply", api.Msg{Kind: api.MAppReply, Seq: -9, Match: math.MinInt},
			laid(octet(4), 0, 0, 0, 0, 0, octet(0), 0, -9, octet(0), math.MinInt, 0, 0, octet(0), "")},
		{"a snapshot", api.Msg{Kind: api.MSnap, Seq: 7, Meta: api.Meta{Index: 11, Term: 12, Voters: []int{13, -14, math.MaxInt}}, Data: []byte("snap")},
			laid(octet(5), 0, 0, 0, 0, 0, octet(0), 0, 7, octet(0), 0, 11, 12, octet(3), 13, -14, math.MaxInt, "snap")},
		{"something in each field", full(),
			laid(octet(3), 1, 2, 3, 4, 5, octet(2), 6, 7, octet(2), "ab", 8, 9, octet(1), "c", 10, 11, octet(1), 12, 13, 14, octet(2), 15, 16, "snap")},
		{"long texts", api.Msg{Kind: api.MSnap, Entries: []api.Entry{{Data: []byte(long)}, {Data: []byte(long[1:])}}, Data: []byte(long[2:])},
			laid(octet(5), 0, 0, 0, 0, 0, octet(2), 0, 0, octet(0), long, 0, 0, octet(0), long[1:], 0, 0, octet(0), 0, 0, 0, octet(0), long[2:])},
	}
}

// plain is a message with no empty lists, so that reflect.DeepEqual takes them for none.
func plain(m api.Msg) api.Msg {
	list := m.Entries
	m.Entries = nil
	for _, e := range list {
		if len(e.Data) == 0 {
			e.Data = nil
		}
		m.Entries = append(m.Entries, e)
	}
	if len(m.Meta.Voters) == 0 {
		m.Meta.Voters = nil
	}
	if len(m.Data) == 0 {
		m.Data = nil
	}
	return m
}

// alike holds messages against each other field by field, without net's own means.
func alike(a, b api.Msg) bool { return reflect.DeepEqual(plain(a), plain(b)) }

func isMsg(t *testing.T, what string, got, want api.Msg) {
	t.Helper()
	if !alike(got, want) {
		t.Errorf("%s: %.300s, not %.300s", what, fmt.Sprintf("%+v", got), fmt.Sprintf("%+v", want))
	}
}

// encodes asks for a message's bytes, which it must have.
func encodes(t *testing.T, m api.Msg) []byte {
	t.Helper()
	b, err := net.Encode(m)
	if err != api.OK {
		t.Fatalf("Encode: %v", err)
	}
	return b
}

func drawnData(r *rand.Rand) []byte {
	b := make([]byte, r.Intn(2)*r.Intn(9))
	r.Read(b)
	return b
}

// drawnMsg draws a message that has bytes.
func drawnMsg(r *rand.Rand) api.Msg {
	n := func() int { return edges[r.Intn(len(edges))] }
	m := api.Msg{Kind: 1 + r.Intn(5), From: n(), To: n(), Term: n(), Index: n(), LogTerm: n(), Commit: n(), Seq: n(), OK: r.Intn(2) == 0, Match: n(), Meta: api.Meta{Index: n(), Term: n()}, Data: drawnData(r)}
	for range r.Intn(4) {
		m.Entries = append(m.Entries, api.Entry{Index: n(), Term: n(), Kind: r.Intn(256), Data: drawnData(r)})
	}
	for range r.Intn(4) {
		m.Meta.Voters = append(m.Meta.Voters, n())
	}
	return m
}
