package raft_test

import (
	"fmt"
	"math"
	"testing"

	"horologe/api"
)

func TestP1405WhatIsRefused(t *testing.T) {
	long := make([]byte, 1<<23+1)
	for _, c := range []struct {
		index int
		data  []byte
		want  api.Errno
	}{
		{5, nil, api.ErrArg}, {4, nil, api.ErrArg}, {0, nil, api.ErrArg}, {-1, nil, api.ErrArg}, {math.MinInt, nil, api.ErrArg}, {math.MaxInt, nil, api.ErrArg}, {8, nil, api.ErrArg}, {8, long, api.ErrArg}, {5, long, api.ErrArg}, {6, long, api.ErrLong}, {7, long, api.ErrLong}, {6, long[1:], api.OK}, {7, nil, api.OK},
	} {
		r := back(t, 1, []int{1, 2}, api.Hard{Term: 3, Vote: -1, Commit: 7}, api.Meta{Index: 5, Term: 2, Voters: []int{1, 2}}, many(5, 3, 4)...)
		if err := r.Compact(7, nil); err != api.ErrArg { // it is committed, but not applied
			t.Error(err)
		}
		r.Ready()
		ahead := stateText(r)
		if err := r.Compact(c.index, c.data); err != c.want || (stateText(r) == ahead) != (err != api.OK) {
			t.Errorf("%d: %v", c.index, err)
		}
	}
}

func TestP1405WhatIsLeft(t *testing.T) {
	log := []api.Entry{data(1, 1, "a"), voters(2, 1, 1, 3), data(3, 2, "b"), voters(4, 3, 1), data(5, 4, "c")}
	for index, want := range []string{"", "1/1[1 2]", "2/1[1 3]", "3/2[1 3]", "4/3[1]", "5/4[1]"} {
		if index == 0 {
			continue
		}
		r := back(t, 1, []int{1, 2}, api.Hard{Term: 4, Vote: -1, Commit: 5}, api.Meta{}, log...)
		r.Ready()
		if err := r.Compact(index, []byte("s")); err != api.OK {
			t.Fatal(err)
		}
		if metaText(r.Meta()) != want || fmt.Sprint(r.Voters()) != "[1]" {
			t.Errorf("%s, %v vote, not %s", metaText(r.Meta()), r.Voters(), want)
		}
		isLog(t, r, log[index:]...)
		isHard(t, r, 4, -1, 5)
		if x := sends(t, r); x.HasSnap || x.HasHard || len(x.Entries)+len(x.Commit) > 0 {
			t.Error(readyText(x))
		}
	}
}

// TestP1405BehindASnapshot: voters are m's, where the log tells none.
func TestP1405BehindASnapshot(t *testing.T) {
	r := back(t, 1, []int{1, 2}, api.Hard{Term: 3, Vote: -1, Commit: 8}, api.Meta{Index: 5, Term: 2, Voters: []int{1, 7}}, many(5, 3, 4)...)
	r.Ready()
	r.Compact(6, nil)
	r.Compact(8, nil)
	if metaText(r.Meta()) != "8/3[1 7]" {
		t.Error(metaText(r.Meta()))
	}
	isLog(t, r, many(8, 3, 1)...)
}

// TestP1403ASnapshotIsSent: to one whose next entry is in it.
func TestP1403ASnapshotIsSent(t *testing.T) {
	r := leader(t, true, 1, 2, 3)
	proposes(t, r, "a", "b", "c")
	r.Step(reply(2, 4))
	r.Step(reply(3, 2))
	r.Read(1)
	r.Ready()
	for _, c := range []struct {
		index int
		text  string
		want  string // to 3, whose next is 3
	}{{1, "p", `app 1>3 t1 i2 l1 c4 s1 [3/1.0"b" 4/1.0"c"]`}, {2, "q", `app 1>3 t1 i2 l1 c4 s1 [3/1.0"b" 4/1.0"c"]`}, {3, "r", `snap 1>3 t1 s1 {3/1[1 2 3] "r"}`}, {4, "s", `snap 1>3 t1 s1 {4/1[1 2 3] "s"}`}} {
		if err := r.Compact(c.index, []byte(c.text)); err != api.OK {
			t.Fatal(err)
		}
		r.Step(refusal(3, 9))
		sends(t, r, c.want)
	}
	r.Step(reply(3, 4))
	sends(t, r)
	for range 3 {
		r.Tick(0)
	}
	sends(t, r, "app 1>2 t1 i4 l1 c4 s1", "app 1>3 t1 i4 l1 c4 s1")
}

// TestP1403SnapshotsOfNewAndOfOthers: what a leader came back with, or was sent, it sends.
func TestP1403SnapshotsOfNewAndOfOthers(t *testing.T) {
	meta := api.Meta{Index: 5, Term: 2, Voters: []int{1, 2}}
	r := back(t, 1, []int{1, 2}, none, meta)
	elect(t, r)
	r.Ready()
	m := refusal(2, 4)
	m.Term = r.Hard().Term
	r.Step(m)
	sends(t, r, `snap 1>2 t3 {5/2[1 2] "snap"}`)
	r.Step(api.Msg{Kind: api.MSnap, From: 2, To: 1, Term: 7, Meta: api.Meta{Index: 9, Term: 6, Voters: []int{1, 2}}, Data: []byte("other")})
	elect(t, r)
	r.Ready()
	m.Term = r.Hard().Term
	r.Step(m)
	sends(t, r, `snap 1>2 t8 {9/6[1 2] "other"}`)
}
