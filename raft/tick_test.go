package raft_test

import (
	"math"
	"testing"

	"horologe/api"
	"horologe/raft"
)

func TestElectionsTheTenthTick(t *testing.T) {
	for _, draw := range []int{0, 1, 9, -1, 10, math.MaxInt, math.MinInt} { // none was taken yet
		r := begun(t, 1, 1, 2)
		if n := ticks(r, draw, 40); n != 10 {
			t.Errorf("draw %d: it stands at the %d-th", draw, n)
		}
	}
}

func TestElectionsTheDrawThatIsTaken(t *testing.T) {
	for _, c := range []struct{ draw, want int }{{0, 10}, {1, 11}, {9, 19}, {10, 10}, {13, 13}, {-1, 19}, {-10, 10}, {-13, 17}, {math.MaxInt, 17}, {math.MinInt, 12}} {
		r := begun(t, 1, 1, 2)
		r.Tick(c.draw)
		r.Step(api.Msg{Kind: api.MApp, From: 2, To: 1})
		if n := ticks(r, 5, 40); n != c.want {
			t.Errorf("draw %d: it stands at the %d-th, not the %d-th", c.draw, n, c.want)
		}
		if n := ticks(r, 3, 40); n != 15 { // the draw of the tick at which it stood
			t.Errorf("it stands again at the %d-th", n)
		}
	}
}

// TestElectionsWhenTicksAreCountedAnew: each is tried behind some ticks of draw 4, ahead of others.
func TestElectionsWhenTicksAreCountedAnew(t *testing.T) {
	fresh := func(t *testing.T) *raft.Raft { return back(t, 1, []int{1, 2, 3}, none, api.Meta{}, data(1, 0, "x")) }
	candidate := func(t *testing.T) *raft.Raft {
		r := fresh(t)
		ticks(r, 0, 10)
		return r
	}
	leads := func(t *testing.T) *raft.Raft {
		r := candidate(t)
		r.Step(api.Msg{Kind: api.MVoteReply, From: 2, To: 1, Term: 1, OK: true})
		return r
	}
	for _, c := range []struct {
		what  string
		node  func(t *testing.T) *raft.Raft
		msg   api.Msg
		anew  bool
		waits int // how many ticks it would wait in all, if they were not counted anew
	}{
		{"a vote that is granted", fresh, api.Msg{Kind: api.MVote, Term: 1, Index: 1}, true, 10}, {"one that is not", fresh, api.Msg{Kind: api.MVote, Term: 1}, false, 10}, {"a later term", fresh, api.Msg{Kind: api.MVoteReply, Term: 5}, false, 10}, {"an MApp", fresh, api.Msg{Kind: api.MApp, Term: 0, Index: 1}, true, 10}, {"one that does not fit", fresh, api.Msg{Kind: api.MApp, Term: 2, Index: 9}, true, 10}, {"an MSnap", fresh, api.Msg{Kind: api.MSnap, Term: 1, Meta: api.Meta{Index: 1, Voters: []int{1, 2}}}, true, 10}, {"an MAppReply", fresh, api.Msg{Kind: api.MAppReply, Term: 0}, false, 10},
		{"an MApp of an elder term", candidate, api.Msg{Kind: api.MApp, Term: 0, Index: 1}, false, 10}, {"a candidate hears of a leader", candidate, api.Msg{Kind: api.MApp, Term: 1, Index: 1}, true, 10}, {"of a later term", candidate, api.Msg{Kind: api.MAppReply, Term: 2}, true, 10}, {"of another candidate", candidate, api.Msg{Kind: api.MVote, Term: 1, Index: 9}, false, 10}, {"a vote that it does not get", candidate, api.Msg{Kind: api.MVoteReply, Term: 1}, false, 10},
		{"a leader hears of a later term", leads, api.Msg{Kind: api.MVoteReply, Term: 2}, true, 0},
	} {
		r := c.node(t)
		for range 6 {
			r.Tick(4)
		}
		c.msg.From, c.msg.To = 2, 1
		r.Step(c.msg)
		want := c.waits - 6
		if c.anew {
			want = 14
		}
		if n := ticks(r, 8, 40); n != want {
			t.Errorf("%s: it stands at the %d-th, not the %d-th", c.what, n, want)
		}
	}
}

func TestElectionsALeaderThatIsVotedOutWaitsAnew(t *testing.T) {
	r := leader(t, true, 1, 2)
	r.Tick(4)
	r.Change(2)
	r.Step(api.Msg{Kind: api.MAppReply, From: 2, To: 1, Term: 1, OK: true, Match: 2})
	isRole(t, r, raft.Follower, -1)
	for range 100 { // it is no voter: it counts on
		r.Tick(0)
	}
	isHard(t, r, 1, 1, 2)
	r.Step(api.Msg{Kind: api.MVoteReply, From: 2, To: 1, Term: 2}) // counts nothing anew
	r.Step(api.Msg{Kind: api.MVote, From: 2, To: 1, Term: 3})
	isRole(t, r, raft.Follower, -1)
}

func TestElectionsWhoIsNoVoterCountsOn(t *testing.T) {
	r := back(t, 1, []int{2, 3}, none, api.Meta{})
	for range 30 {
		r.Tick(0)
	}
	isHard(t, r, 0, -1, 0)
	r = back(t, 1, []int{1, 2}, none, api.Meta{}, voters(1, 0, 2))
	if n := ticks(r, 0, 25); n != 25 {
		t.Errorf("it stands at the %d-th", n)
	}
	r.Step(api.Msg{Kind: api.MApp, From: 2, To: 1, Index: 1, Entries: []api.Entry{voters(2, 0, 1, 2)}})
	if n := ticks(r, 0, 25); n != 10 {
		t.Errorf("as a voter: it stands at the %d-th", n)
	}
}

func TestElectionsACandidateStandsAgain(t *testing.T) {
	r := begun(t, 1, 0, 1, 2)
	ticks(r, 7, 40)
	sends(t, r, "vote 1>0 t1", "vote 1>2 t1")
	isRole(t, r, raft.Candidate, -1)
	isHard(t, r, 1, 1, 0)
	r.Step(api.Msg{Kind: api.MVoteReply, From: 2, To: 1, Term: 1}) // does not vote for it
	if n := ticks(r, 0, 40); n != 17 {
		t.Errorf("it stands again at the %d-th", n)
	}
	sends(t, r, "vote 1>0 t2", "vote 1>2 t2")
	isHard(t, r, 2, 1, 0)
	r.Step(api.Msg{Kind: api.MVoteReply, From: 2, To: 1, Term: 1, OK: true}) // of the term ahead
	isRole(t, r, raft.Candidate, -1)
}

func TestElectionsToStand(t *testing.T) {
	r := back(t, 1, []int{0, 1, 4}, api.Hard{Term: 6, Vote: 3}, api.Meta{Index: 5, Term: 2, Voters: []int{0, 1, 2, 9}}, data(6, 4, "x"))
	r.Step(api.Msg{Kind: api.MApp, From: 2, To: 1, Term: 6, Index: 5, LogTerm: 2})
	isRole(t, r, raft.Follower, 2)
	r.Ready()
	ticks(r, 0, 40)
	isRole(t, r, raft.Candidate, -1)
	x := sends(t, r, "vote 1>0 t7 i6 l4", "vote 1>2 t7 i6 l4", "vote 1>9 t7 i6 l4")
	if !x.HasHard || x.Hard != (api.Hard{Term: 7, Vote: 1, Commit: 5}) {
		t.Errorf("%+v", x.Hard)
	}
	r = back(t, 1, []int{1, 2}, none, api.Meta{Index: 5, Term: 2, Voters: []int{1, 2}})
	ticks(r, 0, 40)
	sends(t, r, "vote 1>2 t3 i5 l2")
}

// TestElectionsMost: how many voters must be for it.
func TestElectionsMost(t *testing.T) {
	for n := 1; n <= 7; n++ {
		var all []int
		for id := 1; id <= n; id++ {
			all = append(all, id)
		}
		r := begun(t, 1, all...)
		ticks(r, 0, 40)
		votes := 1
		for id := 2; id <= n && r.Role() == raft.Candidate; id++ {
			r.Step(api.Msg{Kind: api.MVoteReply, From: id, To: 1, Term: 1, OK: true})
			r.Step(api.Msg{Kind: api.MVoteReply, From: id, To: 1, Term: 1, OK: true}) // one has one vote
			votes++
		}
		if r.Role() != raft.Leader || votes != n/2+1 {
			t.Errorf("of %d voters: role %d with %d votes", n, r.Role(), votes)
		}
	}
}

func TestElectionsToLead(t *testing.T) {
	r := back(t, 1, []int{0, 1, 2}, api.Hard{Term: 3, Vote: -1, Commit: 1}, api.Meta{}, data(1, 1, "a"), data(2, 3, "b"))
	ticks(r, 0, 40)
	r.Ready()
	r.Step(api.Msg{Kind: api.MVoteReply, From: 2, To: 1, Term: 4, OK: true})
	isRole(t, r, raft.Leader, 1)
	x := sends(t, r, `app 1>0 t4 i2 l3 c1 [3/4.1""]`, `app 1>2 t4 i2 l3 c1 [3/4.1""]`)
	if entriesText(x.Entries) != `3/4.1""` || x.HasHard || len(x.Commit) > 0 {
		t.Error(readyText(x))
	}
}

// TestExampleOneVoter is the chapter's.
func TestExampleOneVoter(t *testing.T) {
	r := begun(t, 1, 1)
	if n := ticks(r, 9, 40); n != 10 {
		t.Errorf("at the %d-th", n)
	}
	isRole(t, r, raft.Leader, 1)
	isHard(t, r, 1, 1, 1)
	index, term, err := r.Propose([]byte("x"))
	if index != 2 || term != 1 || err != api.OK {
		t.Errorf("%d, %d, %v", index, term, err)
	}
	isHard(t, r, 1, 1, 2)
	if x := sends(t, r); entriesText(x.Commit) != `1/1.1"" 2/1.0"x"` || entriesText(x.Entries) != entriesText(x.Commit) {
		t.Error(readyText(x))
	}
}

func TestElectionsALeadersThirdTick(t *testing.T) {
	r := leader(t, true, 1, 2)
	beat := `app 1>2 t1 i1 l1 c1`
	for i := range 10 {
		r.Tick(i)
		if i%3 == 2 {
			sends(t, r, beat)
		} else {
			sends(t, r)
		}
	}
	r.Propose(nil) // sent to all, but by no tick
	r.Ready()
	r.Tick(0)
	sends(t, r)
	r.Tick(0)
	sends(t, r, `app 1>2 t1 i1 l1 c1 [2/1.0""]`)
	isRole(t, r, raft.Leader, 1)
	ticks(r, 0, 100)
	isHard(t, r, 1, 1, 1) // a leader does not stand
}

// TestElectionsTicksSinceItLed: those of a time in which it led before do not count.
func TestElectionsTicksSinceItLed(t *testing.T) {
	r := begun(t, 1, 1, 2)
	for round := range 3 {
		ticks(r, 0, 40)
		r.Step(api.Msg{Kind: api.MVoteReply, From: 2, To: 1, Term: r.Hard().Term, OK: true})
		r.Ready()
		for i := range 2 {
			if r.Tick(0); len(r.Ready().Msgs) > 0 {
				t.Errorf("round %d: it sends at the %d-th", round, i+1)
			}
		}
		r.Step(api.Msg{Kind: api.MVoteReply, From: 2, To: 1, Term: r.Hard().Term + 1})
	}
}
