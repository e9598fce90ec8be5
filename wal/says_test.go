package wal_test

import (
	"fmt"
	"math"
	"math/rand"
	"slices"
	"testing"

	"horologe/api"
	"horologe/wal"
)

// saying tells what records (api.Hard, Entry, Meta) say, word by word as the chapter has it.
func saying(s wal.State, records ...any) wal.State {
	for _, r := range records {
		switch r := r.(type) {
		case api.Hard:
			s.Hard = r
		case api.Entry:
			s.Entries = only(s.Entries, func(e api.Entry) bool { return e.Index < r.Index })
			last := s.Meta.Index
			if n := len(s.Entries); n > 0 {
				last = s.Entries[n-1].Index
			}
			if r.Index == last+1 {
				s.Entries = append(s.Entries, r)
			}
		case api.Meta:
			stay := s.Meta.Index == r.Index && s.Meta.Term == r.Term
			for _, e := range s.Entries {
				stay = stay || e.Index == r.Index && e.Term == r.Term
			}
			s.Meta = r
			s.Entries = only(s.Entries, func(e api.Entry) bool { return stay && e.Index > r.Index })
		}
	}
	return s
}

func only(list []api.Entry, stays func(api.Entry) bool) []api.Entry {
	return slices.DeleteFunc(slices.Clone(list), func(e api.Entry) bool { return !stays(e) })
}

// start is the state ahead of all records.
func start() wal.State { return wal.State{Hard: api.Hard{Vote: -1}} }

func meta(index, term int, voters ...int) api.Meta {
	return api.Meta{Index: index, Term: term, Voters: voters}
}

// read opens a disk with one file of these records.
func read(t *testing.T, records ...any) string {
	t.Helper()
	d := made(t, 1<<24)
	lay(t, d, "wal-00000001", rec(records...))
	return told(opened(t, d).State())
}

func TestP301WhatRecordsSay(t *testing.T) {
	for _, c := range []struct {
		what    string
		records []any
		want    string
	}{
		{"none", nil, blank},
		{"a hard state", []any{api.Hard{Term: 3, Vote: 2, Commit: 1}}, "{3 2 1} 0/0[]"},
		{"a hard state takes the elder one's place", []any{api.Hard{Term: 3, Vote: 2, Commit: 1}, api.Hard{Term: 1, Vote: -1}}, "{1 -1 0} 0/0[]"},
		{"the first entry", []any{en(1, 4)}, "{0 -1 0} 0/0[] 1/4/1=1.4"},
		{"one ahead of it lacks", []any{en(2, 4)}, blank},
		{"one behind the other", []any{en(1, 4), en(2, 4)}, "{0 -1 0} 0/0[] 1/4/1=1.4 2/4/2=2.4"},
		{"a gap", []any{en(1, 4), en(3, 4)}, "{0 -1 0} 0/0[] 1/4/1=1.4"},
		{"behind a gap", []any{en(1, 4), en(3, 4), en(2, 4)}, "{0 -1 0} 0/0[] 1/4/1=1.4 2/4/2=2.4"},
		{"at the last one", []any{en(1, 4), en(2, 4), en(2, 5)}, "{0 -1 0} 0/0[] 1/4/1=1.4 2/5/2=2.5"},
		{"ahead of the last one", []any{en(1, 4), en(2, 4), en(3, 4), en(2, 5)}, "{0 -1 0} 0/0[] 1/4/1=1.4 2/5/2=2.5"},
		{"at the first one", []any{en(1, 4), en(2, 4), en(1, 3)}, "{0 -1 0} 0/0[] 1/3/1=1.3"},
		{"ahead of all, passed over", []any{en(1, 4), en(2, 4), en(0, 3)}, blank},
		{"below 0, passed over", []any{en(1, 4), en(-7, 3)}, blank},
		{"a base alone", []any{meta(5, 2, 1, 0)}, "{0 -1 0} 5/2[1 0]"},
		{"a base leaves the hard state", []any{api.Hard{Term: 3}, meta(5, 2)}, "{3 0 0} 5/2[]"},
		{"behind a base", []any{meta(5, 2), en(6, 2)}, "{0 -1 0} 5/2[] 6/2/0=6.2"},
		{"a gap behind a base", []any{meta(5, 2), en(7, 2)}, "{0 -1 0} 5/2[]"},
		{"at Meta, nothing there", []any{meta(5, 2), en(5, 2)}, "{0 -1 0} 5/2[]"},
		{"at Meta, all dropped", []any{meta(5, 2), en(6, 2), en(5, 2)}, "{0 -1 0} 5/2[]"},
		{"ahead of Meta, all dropped", []any{meta(5, 2), en(6, 2), en(7, 2), en(1, 2)}, "{0 -1 0} 5/2[]"},
		{"a base at an entry", []any{en(1, 1), en(2, 1), en(3, 2), meta(2, 1, 9)}, "{0 -1 0} 2/1[9] 3/2/0=3.2"},
		{"a base at an entry of another term", []any{en(1, 1), en(2, 1), en(3, 2), meta(2, 2)}, "{0 -1 0} 2/2[]"},
		{"a base at the last entry", []any{en(1, 1), en(2, 1), meta(2, 1)}, "{0 -1 0} 2/1[]"},
		{"a base beyond the last entry", []any{en(1, 1), en(2, 1), meta(3, 1)}, "{0 -1 0} 3/1[]"},
		{"the same base with other voters", []any{meta(2, 1, 4), en(3, 1), meta(2, 1, 5, 6)}, "{0 -1 0} 2/1[5 6] 3/1/0=3.1"},
		{"a base at Meta, of another term", []any{meta(2, 1, 4), en(3, 1), meta(2, 2)}, "{0 -1 0} 2/2[]"},
		{"a base ahead of Meta", []any{meta(2, 1, 4), en(3, 1), meta(1, 1)}, "{0 -1 0} 1/1[]"},
		{"a base at the beginning", []any{en(1, 1), meta(0, 0, 4)}, "{0 -1 0} 0/0[4] 1/1/1=1.1"},
		{"a base at the beginning of another term", []any{en(1, 1), meta(0, 1)}, "{0 -1 0} 0/1[]"},
		{"a base twice on", []any{en(1, 1), en(2, 1), en(3, 1), meta(1, 1), meta(2, 1)}, "{0 -1 0} 2/1[] 3/1/0=3.1"},
	} {
		if got := read(t, c.records...); got != c.want {
			t.Errorf("%s: %s, not %s", c.what, got, c.want)
		}
	}
}

// alphabet are records that meet each other in all ways.
var alphabet = []any{
	api.Hard{Term: 1, Vote: 2, Commit: 3}, en(0, 1), en(1, 1), en(1, 2), en(2, 1), en(2, 2), en(3, 2),
	meta(0, 0), meta(1, 1), meta(1, 2), meta(2, 1, 7), meta(2, 2),
}

func TestP301AllShortRuns(t *testing.T) {
	front := []any{}
	var all func(int)
	all = func(left int) {
		if got, want := read(t, front...), told(saying(start(), front...)); got != want {
			t.Fatalf("%v: %s, not %s", front, got, want)
		}
		for _, r := range alphabet {
			if left > 0 {
				front = append(front, r)
				all(left - 1)
				front = front[:len(front)-1]
			}
		}
	}
	all(4)
}

func TestP301LongDrawnRuns(t *testing.T) {
	for seed := range 500 {
		draw := rand.New(rand.NewSource(int64(seed)))
		var records []any
		s := start()
		for range 60 {
			r := drawn(draw, s)
			records = append(records, r)
			s = saying(s, r)
		}
		if got := read(t, records...); got != told(s) {
			t.Fatalf("seed %d: %s, not %s", seed, got, told(s))
		}
	}
}

// drawn tells a record that is likely to go on with a state.
func drawn(draw *rand.Rand, s wal.State) any {
	last := s.Meta.Index + len(s.Entries)
	switch draw.Intn(12) {
	case 0:
		return api.Hard{Term: draw.Intn(9), Vote: draw.Intn(4) - 1, Commit: draw.Intn(9)}
	case 1:
		m := meta(last-draw.Intn(6), draw.Intn(3), draw.Perm(draw.Intn(8))...)
		if m.Index > s.Meta.Index && m.Index <= last && draw.Intn(3) > 0 {
			m.Term = s.Entries[m.Index-s.Meta.Index-1].Term
		}
		return m
	case 2:
		return en(last-draw.Intn(4), draw.Intn(3))
	}
	return en(last+1, draw.Intn(3))
}

func TestP301NumbersAsTheyAre(t *testing.T) {
	far := 1<<62 - 1
	if got, want := read(t, api.Hard{Term: far, Vote: -9, Commit: -far}, meta(far-1, -4, -1, far), en(far, -5)), fmt.Sprintf("{%d -9 %d} %d/-4[-1 %d] %d/-5/%d=%d.-5", far, -far, far-1, far, far, far%3, far); got != want {
		t.Errorf("%s, not %s", got, want)
	}
	if got, want := read(t, meta(-6, 0), en(-5, 1), en(-4, 1), meta(-5, 1)), "{0 -1 0} -5/1[] -4/1/2=-4.1"; got != want {
		t.Errorf("%s, not %s", got, want)
	}
}

func TestP1NumbersThatWrapRound(t *testing.T) {
	edges := []int{math.MinInt, math.MinInt + 1, -1, 0, 1, math.MaxInt - 1, math.MaxInt}
	for _, a := range edges {
		for _, b := range edges {
			for _, c := range edges {
				d := made(t, 1<<20)
				lay(t, d, "wal-00000001", rec(meta(a, b), en(a+1, a), en(b, 1), meta(c, a), en(c, c)))
				l := opened(t, d)
				l.Save(&api.Hard{Term: a, Vote: b, Commit: c}, en(a, 1), en(b, 1))
				l.Save(nil, en(c, 0), en(c+1, 0))
				l.Cut(meta(b, c))
				l.Cut(meta(max(a, b, c, 1), 0))
				l.State()
			}
		}
	}
}
