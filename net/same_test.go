package net_test

import (
	"bytes"
	"fmt"
	"math"
	"math/rand"
	"slices"
	"testing"

	"horologe/api"
	"horologe/net"
)

// sameBoth asks both ways round.
func sameBoth(t *testing.T, what string, a, b api.Msg, want bool) {
	t.Helper()
	if net.Same(a, b) != want || net.Same(b, a) != want {
		t.Errorf("%s: %v, %v, not %v", what, net.Same(a, b), net.Same(b, a), want)
	}
}

// numbers are all numbers of a message, those of its lists too.
func numbers(m *api.Msg) []*int {
	l := []*int{&m.Kind, &m.From, &m.To, &m.Term, &m.Index, &m.LogTerm, &m.Commit, &m.Seq, &m.Match, &m.Meta.Index, &m.Meta.Term}
	for i := range m.Entries {
		e := &m.Entries[i]
		l = append(l, &e.Index, &e.Term, &e.Kind)
	}
	for i := range m.Meta.Voters {
		l = append(l, &m.Meta.Voters[i])
	}
	return l
}

// texts are all texts of a message.
func texts(m *api.Msg) []*[]byte {
	l := []*[]byte{&m.Data}
	for i := range m.Entries {
		l = append(l, &m.Entries[i].Data)
	}
	return l
}

// changes are what can be done to the full message's lists and OK, so that it is another one.
func changes() map[string]func(m *api.Msg) {
	return map[string]func(m *api.Msg){
		"OK":                   func(m *api.Msg) { m.OK = false },
		"no entries":           func(m *api.Msg) { m.Entries = nil },
		"the first entry":      func(m *api.Msg) { m.Entries = m.Entries[:1] },
		"the second entry":     func(m *api.Msg) { m.Entries = m.Entries[1:] },
		"an entry more":        func(m *api.Msg) { m.Entries = append(m.Entries, api.Entry{}) },
		"an entry twice":       func(m *api.Msg) { m.Entries = append(m.Entries, m.Entries[1]) },
		"entries turned round": func(m *api.Msg) { slices.Reverse(m.Entries) },
		"no voters":            func(m *api.Msg) { m.Meta.Voters = nil },
		"the first voter":      func(m *api.Msg) { m.Meta.Voters = m.Meta.Voters[:1] },
		"the second voter":     func(m *api.Msg) { m.Meta.Voters = m.Meta.Voters[1:] },
		"a voter more":         func(m *api.Msg) { m.Meta.Voters = append(m.Meta.Voters, 0) },
		"voters turned round":  func(m *api.Msg) { slices.Reverse(m.Meta.Voters) },
		"texts that change places": func(m *api.Msg) {
			m.Data, m.Entries[0].Data = m.Entries[0].Data, m.Data
		},
		"a byte that goes to the next entry": func(m *api.Msg) {
			m.Entries[0].Data, m.Entries[1].Data = []byte("a"), []byte("bc")
		},
	}
}

func TestP1501SameFieldByField(t *testing.T) {
	sameBoth(t, "alike", full(), full(), true)
	another := func(what string, change func(m *api.Msg)) {
		t.Helper()
		m, n := full(), full()
		change(&m)
		change(&n)
		sameBoth(t, what, m, full(), false)
		sameBoth(t, what+", in both", m, n, true)
	}
	for what, change := range changes() {
		another(what, change)
	}
	m := full()
	for i := range numbers(&m) {
		for _, by := range []int{1, -1, 256, 1 << 32, math.MinInt} {
			another(fmt.Sprint("number ", i, ", ", by, " more"), func(m *api.Msg) { *numbers(m)[i] += by })
		}
	}
	for i := range texts(&m) {
		another(fmt.Sprint("no text ", i), func(m *api.Msg) { *texts(m)[i] = nil })
		another(fmt.Sprint("text ", i, ", a byte more"), func(m *api.Msg) { *texts(m)[i] = append(*texts(m)[i], 0) })
		another(fmt.Sprint("text ", i, ", a byte less"), func(m *api.Msg) { *texts(m)[i] = (*texts(m)[i])[1:] })
		for at := range *texts(&m)[i] {
			another(fmt.Sprint("text ", i, ", another byte at ", at), func(m *api.Msg) { (*texts(m)[i])[at] ^= 128 })
		}
	}
}

// TestP1501SameOfFieldsAlone: each field by itself makes a message another one than one of which nothing is set.
func TestP1501SameOfFieldsAlone(t *testing.T) {
	sameBoth(t, "nothing", api.Msg{}, api.Msg{}, true)
	sameBoth(t, "OK alone", api.Msg{}, api.Msg{OK: true}, false)
	sameBoth(t, "Data alone", api.Msg{}, api.Msg{Data: []byte{0}}, false)
	sameBoth(t, "an entry alone", api.Msg{}, listed(1, 0), false)
	sameBoth(t, "a voter alone", api.Msg{}, listed(0, 1), false)
	for i := range numbers(new(api.Msg)) {
		for _, n := range edges {
			var m api.Msg
			*numbers(&m)[i] = n
			sameBoth(t, fmt.Sprint("number ", i, " of ", n), m, api.Msg{}, n == 0)
		}
	}
}

func TestP1501SameOfEmptyLists(t *testing.T) {
	sameBoth(t, "no lists, empty ones", api.Msg{}, api.Msg{Entries: []api.Entry{}, Meta: api.Meta{Voters: []int{}}, Data: []byte{}}, true)
	sameBoth(t, "no lists, empty ones with room", api.Msg{}, api.Msg{Entries: make([]api.Entry, 0, 3), Meta: api.Meta{Voters: make([]int, 0, 3)}, Data: make([]byte, 0, 3)}, true)
	sameBoth(t, "entries without Data", listed(2, 0), api.Msg{Kind: api.MApp, Entries: []api.Entry{{Data: []byte{}}, {Data: make([]byte, 0, 2)}}}, true)
	sameBoth(t, "an entry of no Data, of a zero", listed(1, 0), api.Msg{Kind: api.MApp, Entries: []api.Entry{{Data: []byte{0}}}}, false)
}

// TestP1501SameOfWhatHasNoBytes: all counts also in messages that Encode refuses.
func TestP1501SameOfWhatHasNoBytes(t *testing.T) {
	for _, kind := range edges {
		for _, other := range edges {
			sameBoth(t, fmt.Sprint("kinds ", kind, ", ", other), api.Msg{Kind: kind}, api.Msg{Kind: other}, kind == other)
			a, b := listed(1, 0), listed(1, 0)
			a.Entries[0].Kind, b.Entries[0].Kind = kind, other
			sameBoth(t, fmt.Sprint("kinds of entries ", kind, ", ", other), a, b, kind == other)
		}
	}
	sameBoth(t, "long lists", listed(300, 999), listed(300, 999), true)
	sameBoth(t, "long lists, an entry less", listed(300, 999), listed(299, 999), false)
	sameBoth(t, "long lists, a voter less", listed(300, 999), listed(300, 998), false)
	a, b := listed(300, 999), listed(300, 999)
	b.Entries[299].Term = 1
	sameBoth(t, "long lists, the last entry", a, b, false)
	b = listed(300, 999)
	b.Meta.Voters[998] = 1
	sameBoth(t, "long lists, the last voter", a, b, false)
}

// TestP1501SameIsSameBytes: of messages that have bytes.
func TestP1501SameIsSameBytes(t *testing.T) {
	r := rand.New(rand.NewSource(1501))
	unlike := 0
	for range 5000 {
		seed := r.Int63()
		a, b := drawnMsg(rand.New(rand.NewSource(seed))), drawnMsg(rand.New(rand.NewSource(seed)))
		sameBoth(t, "drawn alike", a, b, true)
		in := encodes(t, a)[8:]
		in[r.Intn(len(in))] ^= byte(r.Intn(3))
		if c, err := net.Parse(framed(in)); err == api.OK {
			same := bytes.Equal(encodes(t, a)[8:], in)
			sameBoth(t, "a byte turned", a, c, same)
			if !same {
				unlike++
			}
		}
	}
	if unlike < 1000 {
		t.Errorf("only %d were unlike", unlike)
	}
}
