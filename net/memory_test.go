package net_test

import (
	"bytes"
	"fmt"
	"math/rand"
	"runtime"
	"slices"
	"testing"

	"horologe/api"
	"horologe/net"
)

// roomy is a list with spare room, in which something stands.
func roomy[T any](spare T, list ...T) []T {
	out := make([]T, len(list), len(list)+2)
	copy(out, list)
	out[:cap(out)][len(list)] = spare
	return out
}

// roomyMsg is the full message, its lists with spare room.
func roomyMsg() api.Msg {
	m := full()
	for i := range m.Entries {
		m.Entries[i].Data = roomy('q', m.Entries[i].Data...)
	}
	m.Entries = roomy(api.Entry{Index: 66, Data: []byte("spare")}, m.Entries...)
	m.Meta.Voters = roomy(66, m.Meta.Voters...)
	m.Data = roomy('q', m.Data...)
	return m
}

// spareText tells the spare room of a message of roomyMsg.
func spareText(m api.Msg) string {
	room := m.Entries[:3]
	return fmt.Sprint(room[2], m.Entries[0].Data[:3][2], m.Entries[1].Data[:2][1], m.Meta.Voters[:3][2], m.Data[:5][4])
}

// spoilList turns all of a list, its spare room too.
func spoilList[T any](list []T, by T) {
	list = list[:cap(list)]
	for i := range list {
		list[i] = by
	}
}

// part is one list of a message: it can be turned, and shows what is in it, its spare room too (but not the lists of its elements).
type part struct {
	spoil func()
	text  func() string
}

func partOf[T any](list []T, by T) part {
	return part{func() { spoilList(list, by) }, func() string { return fmt.Sprint(list[:cap(list)]) }}
}

// parts are a message's lists.
func parts(m api.Msg) []part {
	l := []part{partOf(m.Data, 'Z'), partOf(m.Meta.Voters, 77)}
	for _, e := range m.Entries {
		l = append(l, partOf(e.Data, 'Z'))
	}
	entries := func() string {
		s := ""
		for _, e := range m.Entries[:cap(m.Entries)] {
			s += fmt.Sprint(e.Index, e.Term, e.Kind, len(e.Data), " ")
		}
		return s
	}
	return append(l, part{func() { spoilList(m.Entries, api.Entry{Index: 77}) }, entries})
}

// spoilMsg turns all of a message.
func spoilMsg(m api.Msg) {
	for _, p := range parts(m) {
		p.spoil()
	}
}

// TestP2WhatIsSentIsNotKept, nor changed, nor its spare room.
func TestP2WhatIsSentIsNotKept(t *testing.T) {
	m := roomyMsg()
	list := roomy(api.Msg{Kind: 66}, m, called(2))
	ahead := spareText(m)
	n := net.New()
	n.Send(list...)
	isMsg(t, "what was sent", m, full())
	if spareText(m) != ahead || list[:3][2].Kind != 66 {
		t.Error("the spare room was changed")
	}
	spoilMsg(m)
	spoilList(list, api.Msg{Kind: 77})
	is(t, "Double", n.Double(0), api.OK)
	for _, want := range []api.Msg{full(), called(2), full()} {
		m, _ := n.Deliver(0)
		isMsg(t, "what was sent, and turned then", m, want)
	}
}

// TestP2WhatIsDeliveredIsTheCallers: what is done to it is not to be seen in what is on its way.
func TestP2WhatIsDeliveredIsTheCallers(t *testing.T) {
	n := net.New()
	n.Send(full(), full())
	is(t, "Double", n.Double(0), api.OK)
	is(t, "Double", n.Double(2), api.OK)
	for range 4 {
		m, _ := n.Deliver(0)
		isMsg(t, "behind others that were turned", m, full())
		spoilMsg(m)
		m.Entries = append(m.Entries[:1], api.Entry{Index: 88}, api.Entry{Index: 88})
	}
}

// TestP2WhatWasDeliveredStaysAsItIs, whatever is sent later.
func TestP2WhatWasDeliveredStaysAsItIs(t *testing.T) {
	n := net.New()
	n.Send(full(), called(1))
	m, _ := n.Deliver(0)
	for i := range 100 {
		n.Send(called(i))
		is(t, "Double", n.Double(i), api.OK)
		is(t, "Drop", n.Drop(0), api.OK)
	}
	isMsg(t, "what was delivered", m, full())
}

// apart asks that no list of some messages shares memory with another one: each is turned, and no other changes.
func apart(t *testing.T, what string, l []api.Msg) {
	t.Helper()
	var all []part
	for _, m := range l {
		all = append(all, parts(m)...)
	}
	for i, p := range all {
		var ahead []string
		for _, other := range all {
			ahead = append(ahead, other.text())
		}
		p.spoil()
		for j, other := range all {
			if other.text() != ahead[j] && i != j {
				t.Errorf("%s: list %d is turned, and list %d is %s", what, i, j, other.text())
			}
		}
	}
}

// TestP2ListsThatShareMemory when they are sent do so no more when they are delivered.
func TestP2ListsThatShareMemory(t *testing.T) {
	text := []byte("one text")
	m := api.Msg{Entries: []api.Entry{{Data: text}, {Data: text}, {Data: text[:3]}}, Meta: api.Meta{Voters: []int{1, 2}}, Data: text}
	n := net.New()
	n.Send(m, m)
	n.Send(m)
	is(t, "Double", n.Double(1), api.OK)
	is(t, "Double", n.Double(1), api.OK)
	var l []api.Msg
	for n.Len() > 0 {
		got, _ := n.Deliver(0)
		isMsg(t, "delivered", got, m)
		l = append(l, got)
	}
	apart(t, "sent, and doubled", l)
}

// TestP2DoubledOnesHaveNothingInCommon, also with one that is doubled again.
func TestP2DoubledOnesHaveNothingInCommon(t *testing.T) {
	n := net.New()
	n.Send(roomyMsg())
	is(t, "Double", n.Double(0), api.OK)
	is(t, "Double", n.Double(1), api.OK)
	is(t, "Double", n.Double(0), api.OK)
	var l []api.Msg
	for n.Len() > 0 {
		m, _ := n.Deliver(-1)
		l = append(l, m)
	}
	apart(t, "doubled", l)
}

func TestP2ParsedIsItsOwn(t *testing.T) {
	b := encodes(t, full())
	var l []api.Msg
	for range 3 {
		m, _ := net.Parse(b)
		l = append(l, m)
	}
	spoilList(b, 'Z')
	for _, m := range l {
		isMsg(t, "parsed from bytes that were turned then", m, full())
	}
	apart(t, "parsed", l)
}

// TestP2ParseLeavesWhatIsHandedIn, its spare room too.
func TestP2ParseLeavesWhatIsHandedIn(t *testing.T) {
	for _, x := range samples() {
		for _, in := range [][]byte{x.in, x.in[:len(x.in)-1], append(slices.Clone(x.in), 0)} {
			whole := append(framed(in), "spare room"...)
			was := bytes.Clone(whole)
			net.Parse(whole[:len(whole)-10])
			net.Parse(whole)
			if !bytes.Equal(whole, was) {
				t.Errorf("%s: changed", x.what)
			}
		}
	}
}

// TestP2EncodeLeavesWhatIsHandedIn, and tells new bytes each time.
func TestP2EncodeLeavesWhatIsHandedIn(t *testing.T) {
	m := roomyMsg()
	ahead := spareText(m)
	first, second := encodes(t, m), encodes(t, m)
	isMsg(t, "what was handed in", m, full())
	if spareText(m) != ahead {
		t.Error("the spare room was changed")
	}
	was := bytes.Clone(first)
	spoilList(first, 'Z')
	spoilMsg(m)
	if !bytes.Equal(second, was) || !bytes.Equal(encodes(t, full()), was) {
		t.Error("what was told is shared")
	}
}

// TestP2SameLeavesWhatIsHandedIn, its spare room too.
func TestP2SameLeavesWhatIsHandedIn(t *testing.T) {
	a, b := roomyMsg(), roomyMsg()
	ahead := spareText(a)
	net.Same(a, b)
	net.Same(b, a)
	isMsg(t, "the one", a, full())
	isMsg(t, "the other", b, full())
	if spareText(a) != ahead || spareText(b) != ahead {
		t.Error("the spare room was changed")
	}
}

// TestP3TheSameCallsAnswerTheSame of two nets, which have nothing in common (P7): what the one told is turned.
func TestP3TheSameCallsAnswerTheSame(t *testing.T) {
	for seed := range int64(50) {
		r := rand.New(rand.NewSource(seed))
		one, other := net.New(), net.New()
		for range 300 {
			i := edges[r.Intn(len(edges))]
			switch r.Intn(4) {
			case 0, 1:
				m := drawnMsg(r)
				one.Send(m, full())
				other.Send(m, full())
			case 2:
				a, b := one.Double(i), other.Double(i)
				is(t, "Double", a, b)
			default:
				a, err := one.Deliver(i)
				b, otherErr := other.Deliver(i)
				is(t, "Deliver", err, otherErr)
				isMsg(t, "Deliver", a, b)
				spoilMsg(a)
				is(t, "Drop", one.Drop(i), other.Drop(i))
			}
			isLen(t, one, other.Len())
		}
	}
}

func TestP7NetsHaveNothingInCommon(t *testing.T) {
	one, other := net.New(), net.New()
	one.Send(called(1), called(2))
	isEmpty(t, other)
	other.Send(called(3))
	is(t, "Drop", one.Drop(0), api.OK)
	brings(t, one, 2)
	brings(t, other, 3)
}

// used tells how much memory is.
func used() int {
	runtime.GC()
	var m runtime.MemStats
	runtime.ReadMemStats(&m)
	return int(m.HeapAlloc)
}

// TestP1502WhatIsGoneIsNotKept: one stays on its way, and what goes ahead of it and behind it, doubled ones too, leaves no memory.
func TestP1502WhatIsGoneIsNotKept(t *testing.T) {
	const many, size = 30, 1 << 20
	big := api.Msg{Data: make([]byte, size)}
	for _, place := range []int{0, many / 2, many} {
		for _, end := range []int{0, -1} {
			n, at, before := net.New(), place, used()
			for i := range many + 1 {
				if i == place {
					n.Send(called(1))
					continue
				}
				n.Send(big)
				is(t, "Double", n.Double(-1), api.OK)
				is(t, "Drop", n.Drop(-1), api.OK)
			}
			for n.Len() > 1 {
				i := placeOf(end, n.Len())
				if i == at {
					i += 1 + 2*end // the one that stays
				}
				if i < at {
					at--
				}
				m, _ := n.Deliver(i)
				if len(m.Data) != size {
					t.Fatalf("%d bytes", len(m.Data))
				}
			}
			if kept := used() - before; kept > 5*size {
				t.Errorf("place %d, end %d: %d bytes are kept", place, end, kept)
			}
			brings(t, n, 1)
		}
	}
}
