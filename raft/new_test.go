package raft_test

import (
	"math"
	"slices"
	"testing"

	"horologe/api"
	"horologe/raft"
)

// start is what New is handed.
type start struct {
	id     int
	voters []int
	h      api.Hard
	m      api.Meta
	log    []api.Entry
}

// sound is one that may be, and has something of all.
func sound() start {
	return start{2, []int{1, 2, 3}, api.Hard{Term: 4, Vote: 1, Commit: 6}, api.Meta{Index: 5, Term: 3, Voters: []int{1, 2}}, []api.Entry{data(6, 3, "x"), lead(7, 4), voters(8, 4, 2, 9)}}
}

func TestP1401WhatIsRefused(t *testing.T) {
	long := make([]byte, api.MaxRecord+1)
	for _, c := range []struct {
		what string
		turn func(s *start)
		want api.Errno
	}{
		{"nothing", func(s *start) {}, api.OK},
		{"id -1", func(s *start) { s.id = -1 }, api.ErrArg}, {"id 0", func(s *start) { s.id = 0 }, api.OK}, {"the last id", func(s *start) { s.id = 1<<30 - 1 }, api.OK}, {"one more", func(s *start) { s.id = 1 << 30 }, api.ErrArg}, {"the least id", func(s *start) { s.id = math.MinInt }, api.ErrArg},
		{"no voters", func(s *start) { s.voters = nil }, api.ErrArg}, {"one", func(s *start) { s.voters = []int{5} }, api.OK}, {"seven", func(s *start) { s.voters = []int{0, 1, 2, 3, 4, 5, 1<<30 - 1} }, api.OK}, {"eight", func(s *start) { s.voters = []int{0, 1, 2, 3, 4, 5, 6, 7} }, api.ErrArg}, {"falling", func(s *start) { s.voters = []int{2, 1} }, api.ErrArg}, {"twice", func(s *start) { s.voters = []int{2, 2} }, api.ErrArg}, {"voter -1", func(s *start) { s.voters = []int{-1, 2} }, api.ErrArg}, {"voter 2^30", func(s *start) { s.voters = []int{2, 1 << 30} }, api.ErrArg},
		{"h's Term -1", func(s *start) { s.h.Term = -1 }, api.ErrArg}, {"0", func(s *start) { s.h.Term = 0 }, api.OK}, {"2^62", func(s *start) { s.h.Term = 1 << 62 }, api.OK}, {"one more", func(s *start) { s.h.Term = 1<<62 + 1 }, api.ErrArg}, {"Vote -1", func(s *start) { s.h.Vote = -1 }, api.OK}, {"Vote -2", func(s *start) { s.h.Vote = -2 }, api.ErrArg}, {"Vote, the greatest", func(s *start) { s.h.Vote = math.MaxInt }, api.OK}, {"Commit -1", func(s *start) { s.h.Commit = -1 }, api.ErrArg}, {"Commit 0", func(s *start) { s.h.Commit = 0 }, api.OK}, {"Commit, the greatest", func(s *start) { s.h.Commit = math.MaxInt }, api.OK},
		{"m's Index -1", func(s *start) { s.m.Index, s.log = -1, nil }, api.ErrArg}, {"0", func(s *start) { s.m.Index, s.log = 0, nil }, api.OK}, {"2^62", func(s *start) { s.m.Index, s.log = 1<<62, nil }, api.OK}, {"one more", func(s *start) { s.m.Index, s.log = 1<<62+1, nil }, api.ErrArg}, {"m's Term -1", func(s *start) { s.m.Term = -1 }, api.ErrArg}, {"0", func(s *start) { s.m.Term = 0 }, api.OK}, {"2^62", func(s *start) { s.m.Term, s.log = 1<<62, nil }, api.OK}, {"one more", func(s *start) { s.m.Term, s.log = 1<<62+1, nil }, api.ErrArg}, {"at 0, too", func(s *start) { s.m, s.log = api.Meta{Term: 1<<62 + 1}, nil }, api.ErrArg},
		{"m's voters: none", func(s *start) { s.m.Voters = nil }, api.ErrArg}, {"falling", func(s *start) { s.m.Voters = []int{2, 1} }, api.ErrArg}, {"eight", func(s *start) { s.m.Voters = []int{0, 1, 2, 3, 4, 5, 6, 7} }, api.ErrArg}, {"2^30", func(s *start) { s.m.Voters = []int{1 << 30} }, api.ErrArg}, {"at 0 they are not asked", func(s *start) { s.m, s.log = api.Meta{Voters: []int{2, 1}}, nil }, api.OK},
		{"no log", func(s *start) { s.log = nil }, api.OK}, {"the first one at m's Index", func(s *start) { s.log = []api.Entry{data(5, 3, "")} }, api.ErrArg}, {"one too far", func(s *start) { s.log = []api.Entry{data(7, 3, "")} }, api.ErrArg}, {"a gap", func(s *start) { s.log[2].Index = 9 }, api.ErrArg}, {"one twice", func(s *start) { s.log[2].Index = 7 }, api.ErrArg},
		{"the first one's Term below m's", func(s *start) { s.log[0].Term = 2 }, api.ErrArg}, {"a Term that falls", func(s *start) { s.log[2].Term = 3 }, api.ErrArg}, {"the last one's Term 2^62", func(s *start) { s.log[2].Term = 1 << 62 }, api.OK}, {"one more", func(s *start) { s.log[2].Term = 1<<62 + 1 }, api.ErrArg},
		{"Kind -1", func(s *start) { s.log[0].Kind = -1 }, api.ErrArg}, {"Kind 1, with Data", func(s *start) { s.log[0].Kind = 1 }, api.OK}, {"Kind 3", func(s *start) { s.log[0].Kind = 3 }, api.ErrArg}, {"Data as long as may be", func(s *start) { s.log[0].Data = long[1:] }, api.OK}, {"one byte more", func(s *start) { s.log[0].Data = long }, api.ErrArg},
		{"an EVoters without Data", func(s *start) { s.log[2].Data = nil }, api.ErrArg}, {"of none", func(s *start) { s.log[2].Data = votersData() }, api.ErrArg}, {"of seven", func(s *start) { s.log[2].Data = votersData(0, 1, 2, 3, 4, 5, 6) }, api.OK}, {"of eight", func(s *start) { s.log[2].Data = votersData(0, 1, 2, 3, 4, 5, 6, 7) }, api.ErrArg}, {"cut short", func(s *start) { s.log[2].Data = votersData(2, 9)[:16] }, api.ErrArg}, {"with more behind", func(s *start) { s.log[2].Data = append(votersData(2, 9), 0) }, api.ErrArg}, {"falling", func(s *start) { s.log[2].Data = votersData(9, 2) }, api.ErrArg}, {"twice", func(s *start) { s.log[2].Data = votersData(9, 9) }, api.ErrArg}, {"the last id", func(s *start) { s.log[2].Data = votersData(1<<30 - 1) }, api.OK}, {"2^30", func(s *start) { s.log[2].Data = votersData(1 << 30) }, api.ErrArg}, {"2^63", func(s *start) { s.log[2].Data = []byte{1, 128, 0, 0, 0, 0, 0, 0, 0} }, api.ErrArg}, {"-1", func(s *start) { s.log[2].Data = slices.Concat([]byte{1}, slices.Repeat([]byte{255}, 8)) }, api.ErrArg}, {"the lowest byte first", func(s *start) { s.log[2].Data = []byte{1, 1, 0, 0, 0, 0, 0, 0, 0} }, api.ErrArg},
	} {
		s := sound()
		c.turn(&s)
		r, err := raft.New(s.id, s.voters, s.h, s.m, nil, s.log)
		if err != c.want || (r != nil) != (err == api.OK) {
			t.Errorf("%s: %v, %v", c.what, r != nil, err)
		}
	}
}

func TestP1401TermVoteAndCommit(t *testing.T) {
	meta := api.Meta{Index: 5, Term: 3, Voters: []int{1, 2}}
	for _, c := range []struct {
		what string
		h    api.Hard
		m    api.Meta
		log  []api.Entry
		want api.Hard
	}{
		{"a new one", none, api.Meta{}, nil, none}, {"h's", api.Hard{Term: 7, Vote: 9, Commit: 5}, meta, []api.Entry{data(6, 3, "")}, api.Hard{Term: 7, Vote: 9, Commit: 5}},
		{"m's", api.Hard{Term: 2, Vote: 9}, meta, nil, api.Hard{Term: 3, Vote: -1, Commit: 5}}, {"the last entry's", api.Hard{Term: 3, Vote: 9}, meta, []api.Entry{data(6, 3, ""), data(7, 4, "")}, api.Hard{Term: 4, Vote: -1, Commit: 5}}, {"h's, as great as they are", api.Hard{Term: 4, Vote: 9}, meta, []api.Entry{data(6, 4, "")}, api.Hard{Term: 4, Vote: 9, Commit: 5}},
		{"a commit at last", api.Hard{Term: 3, Vote: -1, Commit: 7}, meta, many(5, 3, 2), api.Hard{Term: 3, Vote: -1, Commit: 7}}, {"beyond last", api.Hard{Term: 3, Vote: -1, Commit: 8}, meta, many(5, 3, 2), api.Hard{Term: 3, Vote: -1, Commit: 7}}, {"beyond an empty log", api.Hard{Term: 3, Vote: -1, Commit: 8}, meta, nil, api.Hard{Term: 3, Vote: -1, Commit: 5}}, {"below m's Index", api.Hard{Term: 3, Vote: -1, Commit: 4}, meta, many(5, 3, 2), api.Hard{Term: 3, Vote: -1, Commit: 5}}, {"of nothing", api.Hard{Vote: -1, Commit: 4}, api.Meta{}, nil, none},
	} {
		r := back(t, 1, []int{1}, c.h, c.m, c.log...)
		if r.Hard() != c.want {
			t.Errorf("%s: %+v, not %+v", c.what, r.Hard(), c.want)
		}
		isRole(t, r, raft.Follower, -1)
		isLog(t, r, c.log...)
		if metaText(r.Meta()) != metaText(c.m) {
			t.Errorf("%s: meta %v", c.what, r.Meta())
		}
		x := r.Ready()
		if x.HasHard != (c.h != c.want) || x.HasHard && x.Hard != c.want || len(x.Entries) > 0 || x.HasSnap || len(x.Msgs) > 0 || len(x.Reads) > 0 {
			t.Errorf("%s: Ready tells %s", c.what, readyText(x))
		}
		if want := c.log[:c.want.Commit-c.m.Index]; entriesText(x.Commit) != entriesText(want) {
			t.Errorf("%s: %s is committed, not %s", c.what, entriesText(x.Commit), entriesText(want))
		}
	}
}

func TestP1401WhoVotes(t *testing.T) {
	meta := api.Meta{Index: 5, Term: 1, Voters: []int{4, 5}}
	for _, c := range []struct {
		what string
		m    api.Meta
		log  []api.Entry
		want []int
	}{
		{"as handed in", api.Meta{}, nil, []int{1, 2, 3}}, {"m's, at 0, do not count", api.Meta{Voters: []int{8}}, many(0, 1, 2), []int{1, 2, 3}}, {"m's", meta, many(5, 1, 2), []int{4, 5}}, {"the log's", meta, []api.Entry{data(6, 1, ""), voters(7, 1, 6), data(8, 1, "")}, []int{6}}, {"the last ones of the log", api.Meta{}, []api.Entry{voters(1, 1, 6), voters(2, 1, 0, 6), data(3, 1, "")}, []int{0, 6}},
	} {
		if r := back(t, 1, []int{1, 2, 3}, none, c.m, c.log...); !slices.Equal(r.Voters(), c.want) {
			t.Errorf("%s: %v, not %v", c.what, r.Voters(), c.want)
		}
	}
}
