package wal_test

import (
	"slices"
	"testing"

	"horologe/api"
	"horologe/wal"
)

// spoil changes all that an answer has, its spare room too.
func spoil(s wal.State) {
	s.Entries = s.Entries[:cap(s.Entries)]
	for i := range s.Entries {
		data := s.Entries[i].Data
		for k := range data[:cap(data)] {
			data[:cap(data)][k] = '#'
		}
		s.Entries[i] = api.Entry{Index: -1, Term: -1, Kind: -1, Data: []byte("spoilt")}
	}
	for i := range s.Meta.Voters[:cap(s.Meta.Voters)] {
		s.Meta.Voters[:cap(s.Meta.Voters)][i] = -9
	}
}

func TestP2WhatIsAnsweredIsNew(t *testing.T) {
	d, l := based(t)
	want := told(l.State())
	spoil(l.State())
	says(t, "State", d, l, want)
	l, s, _ := wal.Open(d)
	spoil(s)
	says(t, "Open", d, l, want)
	spoil(l.State())
	save(t, l, nil, en(7, 2))
	spoil(l.State())
	want += " 7/2/1=7.2"
	says(t, "Save", d, l, want)
	cut(t, l, 3, 1, 0, 1)
	spoil(l.State())
	says(t, "Cut", d, l, want)
}

func TestP2AnAnswerStaysAsItWas(t *testing.T) {
	d, l := based(t)
	_, o, _ := wal.Open(d)
	s := l.State()
	want := told(s)
	save(t, l, &api.Hard{Term: 8}, run(4, 9, 8)...)
	cut(t, l, 6, 8, 3, 3)
	save(t, l, nil, run(7, 7, 9)...)
	if told(s) != want || told(o) != want {
		t.Errorf("%s, %s; not %s", told(s), told(o), want)
	}
}

func TestP2ListsOfOneAnswerShareNothing(t *testing.T) {
	_, l := based(t)
	s := l.State()
	for i := range s.Entries {
		s.Entries[i].Data = append(s.Entries[i].Data, "#############################################"...)
	}
	s.Meta.Voters = append(s.Meta.Voters, 8, 8, 8, 8)
	for i, e := range []string{"4.1", "5.2", "6.2"} {
		if got := string(s.Entries[i].Data[:3]); got != e {
			t.Errorf("%s, not %s", got, e)
		}
	}
}

func TestP2WhatIsSavedIsNeitherChangedNorKept(t *testing.T) {
	d, l := fresh(t)
	data := []byte("one two, and spare room")
	list := []api.Entry{{Index: 1, Term: 1, Data: data[:3]}, {Index: 2, Term: 1, Data: data[4:7]}, {Index: 3, Term: 7}, {Index: 9, Term: 9}}
	h := &api.Hard{Term: 1, Vote: 2, Commit: 3}
	save(t, l, h, list[:2]...)
	if string(data) != "one two, and spare room" || list[2].Term != 7 || list[3].Index != 9 || *h != (api.Hard{Term: 1, Vote: 2, Commit: 3}) {
		t.Errorf("changed: %s, %v, %v", data, list, *h)
	}
	for i := range data {
		data[i] = '#'
	}
	for i := range list {
		list[i] = api.Entry{Index: -1}
	}
	*h = api.Hard{Term: 9}
	want := "{1 2 3} 0/0[] 1/1/0=one 2/1/0=two"
	says(t, "changed behind it", d, l, want)
	cut(t, l, 1, 1)
	says(t, "cut behind it", d, l, "{1 2 3} 1/1[] 2/1/0=two")
}

func TestP2WhatIsCutAtIsNeitherChangedNorKept(t *testing.T) {
	d, l := fresh(t)
	voters := []int{1, 2, 3, 4}
	m := api.Meta{Index: 5, Term: 2, Voters: voters[:2]}
	is(t, "Cut", l.Cut(m), api.OK)
	if !slices.Equal(voters, []int{1, 2, 3, 4}) {
		t.Errorf("changed: %v", voters)
	}
	for i := range voters {
		voters[i] = 9
	}
	says(t, "changed behind it", d, l, "{0 -1 0} 5/2[1 2]")
	save(t, l, nil, en(6, 2))
	cut(t, l, 6, 2)
	says(t, "cut behind it", d, l, "{0 -1 0} 6/2[]")
}

func TestP2NoListIsAnEmptyOne(t *testing.T) {
	for _, none := range []struct {
		data   []byte
		voters []int
	}{{nil, nil}, {[]byte{}, []int{}}} {
		d, l := fresh(t)
		save(t, l, nil, api.Entry{Index: 1, Data: none.data})
		is(t, "Cut", l.Cut(api.Meta{Index: 1, Voters: none.voters}), api.OK)
		save(t, l, nil, api.Entry{Index: 2, Data: none.data})
		says(t, "nil or empty", d, l, "{0 -1 0} 1/0[] 2/0/0=")
	}
}

func TestP2ACutThatFailsLeavesTheEntries(t *testing.T) {
	d, l := fresh(t)
	save(t, l, nil, run(1, 6, 1)...)
	want := told(l.State())
	for stop := 1; stop <= 3; stop++ {
		d.Stop(stop)
		is(t, "Cut", l.Cut(meta(3, 1)), api.ErrDead)
		d.Crash(1 << 20)
		d.Remove("wal.new")
		says(t, "elder", d, l, want)
	}
}

func TestP7LogsOfTwoDisksShareNothing(t *testing.T) {
	d, l := based(t)
	c := clone(t, d, 1<<20)
	other := opened(t, c)
	want := told(other.State())
	save(t, l, &api.Hard{Term: 5}, run(4, 8, 5)...)
	cut(t, l, 5, 5, 9)
	says(t, "the other one", c, other, want)
	save(t, other, nil, en(7, 3))
	says(t, "the first one", d, l, told(l.State()))
	if told(other.State()) == told(l.State()) {
		t.Error("they are the same")
	}
}

func TestP1ALogThatIsNotOfOpen(t *testing.T) {
	l := &wal.Log{}
	l.State()
	counts(t, "no disk", l, 0)
	for _, err := range []api.Errno{l.Save(nil, en(1, 1)), l.Save(&api.Hard{}), l.Cut(meta(1, 1))} {
		if err == api.OK {
			t.Error("saved on no disk")
		}
	}
}
