package raft_test

import (
	"slices"
	"testing"

	"horologe/api"
	"horologe/raft"
)

// app is a message of leader 0 to node 2, of term 3.
func app(index, logTerm, commit int, l ...api.Entry) api.Msg {
	return api.Msg{Kind: api.MApp, From: 0, To: 2, Term: 3, Index: index, LogTerm: logTerm, Commit: commit, Entries: l}
}

func snap(index, term int, text string) api.Msg {
	return api.Msg{Kind: api.MSnap, From: 0, To: 2, Term: 3, Meta: api.Meta{Index: index, Term: term, Voters: []int{0, 2, 5}}, Data: []byte(text)}
}

// follower is node 2 of three, which has entries 1 and 2 of term 1, 3 and 4 of term 2, told and committed as far as is said.
func follower(t *testing.T, commit int) *raft.Raft {
	t.Helper()
	r := begun(t, 2, 0, 1, 2)
	r.Step(app(0, 0, commit, data(1, 1, "a"), data(2, 1, "b"), data(3, 2, "c"), data(4, 2, "d")))
	r.Ready()
	return r
}

func TestP1402TheHardState(t *testing.T) {
	r := begun(t, 2, 0, 1, 2)
	has := func(want bool, hard api.Hard) {
		t.Helper()
		if x := r.Ready(); x.HasHard != want || x.Hard != hard {
			t.Errorf("%v, %+v, not %v, %+v", x.HasHard, x.Hard, want, hard)
		}
	}
	has(false, api.Hard{})
	r.Step(api.Msg{Kind: api.MVoteReply, From: 0, To: 2, Term: 3})
	has(true, api.Hard{Term: 3, Vote: -1})
	has(false, api.Hard{})
	r.Step(api.Msg{Kind: api.MVote, From: 1, To: 2, Term: 3})
	has(true, api.Hard{Term: 3, Vote: 1})
	r.Step(app(0, 0, 1, data(1, 1, "a")))
	has(true, api.Hard{Term: 3, Vote: 1, Commit: 1})
	r.Step(app(0, 0, 1, data(1, 1, "a")))
	has(false, api.Hard{})
	r = back(t, 2, []int{0, 1, 2}, api.Hard{Term: 3, Vote: 1, Commit: 9}, api.Meta{})
	has(true, api.Hard{Term: 3, Vote: 1}) // h's was another one
	has(false, api.Hard{})
}

func TestP1402EntriesThatAreNew(t *testing.T) {
	for _, c := range []struct {
		what string
		msgs []api.Msg
		want []api.Entry
	}{
		{"none", nil, nil}, {"those that it has", []api.Msg{app(0, 0, 0, data(1, 1, "a"), data(2, 1, "b")), app(4, 2, 0)}, nil},
		{"behind the log", []api.Msg{app(4, 2, 0, data(5, 3, "e"))}, []api.Entry{data(5, 3, "e")}}, {"by and by", []api.Msg{app(4, 2, 0, data(5, 3, "e")), app(5, 3, 0, data(6, 3, "f"))}, []api.Entry{data(5, 3, "e"), data(6, 3, "f")}},
		{"some that it has, some new", []api.Msg{app(2, 1, 0, data(3, 2, "c"), data(4, 2, "d"), data(5, 2, "e"))}, []api.Entry{data(5, 2, "e")}},
		{"another one", []api.Msg{app(3, 2, 0, data(4, 3, "x"))}, []api.Entry{data(4, 3, "x")}}, {"in the midst", []api.Msg{app(2, 1, 0, data(3, 3, "x"))}, []api.Entry{data(3, 3, "x")}},
		{"taken back and laid anew", []api.Msg{app(4, 2, 0, data(5, 2, "e"), data(6, 2, "f")), app(4, 2, 0, data(5, 3, "x"))}, []api.Entry{data(5, 3, "x")}}, {"further back", []api.Msg{app(3, 2, 0, data(4, 3, "x"), data(5, 3, "y")), app(2, 1, 0, data(3, 3, "z"))}, []api.Entry{data(3, 3, "z")}}, {"less far back", []api.Msg{app(2, 1, 0, data(3, 3, "x"), data(4, 3, "y")), app(4, 3, 0, data(5, 3, "z"))}, []api.Entry{data(3, 3, "x"), data(4, 3, "y"), data(5, 3, "z")}},
		{"ahead of a snapshot", []api.Msg{app(4, 2, 0, data(5, 3, "e"), data(6, 3, "f"), data(7, 3, "g")), snap(6, 3, "s")}, []api.Entry{data(7, 3, "g")}}, {"told, and ahead of a snapshot", []api.Msg{snap(3, 2, "s")}, nil}, {"gone by a snapshot", []api.Msg{app(4, 2, 0, data(5, 3, "e")), snap(4, 3, "s")}, nil}, {"behind a snapshot", []api.Msg{snap(9, 3, "s"), app(9, 3, 0, data(10, 3, "x"))}, []api.Entry{data(10, 3, "x")}}, {"behind a snapshot, where others were", []api.Msg{snap(2, 2, "s"), app(2, 2, 0, data(3, 2, "c"))}, []api.Entry{data(3, 2, "c")}},
	} {
		r := follower(t, 1)
		for _, m := range c.msgs {
			r.Step(m)
		}
		if x := r.Ready(); entriesText(x.Entries) != entriesText(c.want) {
			t.Errorf("%s: %s, not %s", c.what, entriesText(x.Entries), entriesText(c.want))
		}
		if x := r.Ready(); len(x.Entries) > 0 || x.HasSnap || len(x.Msgs) > 0 {
			t.Errorf("%s: told twice: %s", c.what, readyText(x))
		}
	}
}

func TestP1402TheLastSnapshot(t *testing.T) {
	r := follower(t, 1)
	r.Step(snap(7, 3, "first"))
	r.Step(snap(6, 3, "elder"))
	r.Step(snap(9, 3, "last"))
	x := r.Ready()
	if !x.HasSnap || metaText(x.Meta) != "9/3[0 2 5]" || string(x.Data) != "last" || x.Hard.Commit != 9 || len(x.Commit) > 0 {
		t.Error(readyText(x))
	}
	if x := r.Ready(); x.HasSnap || len(x.Data) > 0 || metaText(x.Meta) != "0/0[]" {
		t.Error(readyText(x))
	}
	r.Step(app(9, 3, 10, data(10, 3, "x")))
	if x := r.Ready(); x.HasSnap || entriesText(x.Commit) != entriesText(x.Entries) || len(x.Commit) != 1 {
		t.Error(readyText(x))
	}
}

func TestP1402WhatIsCommittedOnce(t *testing.T) {
	r := begun(t, 2, 0, 1, 2)
	r.Step(app(0, 0, 1, many(0, 1, 5)...))
	for _, step := range []struct{ commit, told int }{{1, 1}, {1, 0}, {3, 2}, {2, 0}, {9, 2}, {9, 0}} {
		r.Step(app(5, 1, step.commit))
		at := r.Hard().Commit
		x := r.Ready()
		if len(x.Commit) != step.told || step.told > 0 && x.Commit[step.told-1].Index != at {
			t.Errorf("%+v: %s", step, entriesText(x.Commit))
		}
	}
	r = follower(t, 2)
	r.Step(app(4, 2, 4))
	r.Step(snap(3, 2, "behind what is committed"))
	if x := r.Ready(); x.HasSnap || len(x.Commit) != 2 {
		t.Error(readyText(x))
	}
	r = follower(t, 2)
	r.Step(app(2, 1, 3))
	r.Step(snap(6, 3, "s")) // what it has is done by nobody else
	if x := r.Ready(); len(x.Commit) != 0 || !x.HasSnap {
		t.Error(readyText(x))
	}
}

func TestP1402MessagesAndReadsInOrder(t *testing.T) {
	r := leader(t, true, 0, 1, 2)
	for _, ctx := range []int{7, 5, 7} {
		r.Read(ctx)
	}
	r.Step(api.Msg{Kind: api.MAppReply, From: 2, To: 1, Term: 1, OK: true, Match: 1, Seq: 2})
	r.Step(api.Msg{Kind: api.MAppReply, From: 0, To: 1, Term: 1, OK: true, Match: 1, Seq: 3})
	r.Step(api.Msg{Kind: api.MVote, From: 2, To: 1, Term: 1})
	x := sends(t, r, "app 1>0 t1 i1 l1 c1 s1", "app 1>2 t1 c1 s1 [1/1.1\"\"]", "app 1>0 t1 i1 l1 c1 s2", "app 1>2 t1 c1 s2 [1/1.1\"\"]", "app 1>0 t1 i1 l1 c1 s3", "app 1>2 t1 c1 s3 [1/1.1\"\"]", "voted 1>2 t1")
	if want := []raft.Read{{Ctx: 7, Index: 1}, {Ctx: 5, Index: 1}, {Ctx: 7, Index: 1}}; !slices.Equal(x.Reads, want) {
		t.Errorf("%v", x.Reads)
	}
	if x := r.Ready(); readyText(x) != readyText(raft.Ready{}) {
		t.Errorf("told twice: %s", readyText(x))
	}
}
