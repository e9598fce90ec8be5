package raft_test

import (
	"fmt"
	"math"
	"slices"
	"testing"

	"horologe/api"
	"horologe/raft"
)

// reply is a voter's answer to leader 1 of term 1.
func reply(from, match int) api.Msg {
	return api.Msg{Kind: api.MAppReply, From: from, To: 1, Term: 1, OK: true, Match: match}
}

func refusal(from, match int) api.Msg {
	m := reply(from, match)
	m.OK = false
	return m
}

func proposes(t *testing.T, r *raft.Raft, texts ...string) {
	t.Helper()
	for _, text := range texts {
		if _, _, err := r.Propose([]byte(text)); err != api.OK {
			t.Fatal(err)
		}
	}
}

// notLeading are nodes that follow, stand, led and follow now.
func notLeading(t *testing.T) map[string]*raft.Raft {
	t.Helper()
	all := map[string]*raft.Raft{"follower": begun(t, 1, 1, 2), "candidate": begun(t, 1, 1, 2), "led": leader(t, true, 1, 2)}
	ticks(all["candidate"], 0, 40)
	all["led"].Step(api.Msg{Kind: api.MVoteReply, From: 2, To: 1, Term: 2})
	for _, r := range all {
		r.Ready()
	}
	return all
}

func TestP1404WhoDoesNotLead(t *testing.T) {
	for what, r := range notLeading(t) {
		ahead := stateText(r)
		index, term, err := r.Propose(make([]byte, api.MaxRecord+1)) // ErrLeader is ahead of all others
		if index != 0 || term != 0 || err != api.ErrLeader {
			t.Errorf("%s: %d, %d, %v", what, index, term, err)
		}
		if index, err := r.Change(); index != 0 || err != api.ErrLeader {
			t.Errorf("%s: %d, %v", what, index, err)
		}
		if err := r.Read(1); err != api.ErrLeader {
			t.Errorf("%s: %v", what, err)
		}
		if x := r.Ready(); stateText(r) != ahead || readyText(x) != readyText(raft.Ready{}) {
			t.Errorf("%s: %s, %s", what, stateText(r), readyText(x))
		}
	}
}

func TestP1404Propose(t *testing.T) {
	r := leader(t, true, 0, 1, 2)
	if index, term, err := r.Propose([]byte("x")); index != 2 || term != 1 || err != api.OK {
		t.Errorf("%d, %d, %v", index, term, err)
	}
	x := sends(t, r, `app 1>0 t1 i1 l1 c1 [2/1.0"x"]`, `app 1>2 t1 c1 [1/1.1"" 2/1.0"x"]`)
	if entriesText(x.Entries) != `2/1.0"x"` || len(x.Commit) > 0 {
		t.Error(readyText(x))
	}
	long := make([]byte, api.MaxRecord+1)
	if index, term, err := r.Propose(long); index != 0 || term != 0 || err != api.ErrLong {
		t.Errorf("%d, %d, %v", index, term, err)
	}
	if index, _, err := r.Propose(long[1:]); index != 3 || err != api.OK {
		t.Errorf("%d, %v", index, err)
	}
	if index, _, err := r.Propose(nil); index != 4 || err != api.OK {
		t.Errorf("%d, %v", index, err)
	}
}

// TestP1404SixtyFourEntriesWait: no more than that above commit.
func TestP1404SixtyFourEntriesWait(t *testing.T) {
	r := leader(t, false, 0, 1, 2)
	for i := 2; i <= 64; i++ {
		if index, _, err := r.Propose(nil); index != i || err != api.OK {
			t.Fatalf("%d, %v", index, err)
		}
	}
	r.Ready()
	ahead := stateText(r)
	if index, _, err := r.Propose(nil); index != 0 || err != api.ErrFull {
		t.Errorf("%d, %v", index, err)
	}
	if _, _, err := r.Propose(make([]byte, api.MaxRecord+1)); err != api.ErrLong { // ahead of ErrFull
		t.Error(err)
	}
	sends(t, r)
	if stateText(r) != ahead {
		t.Error(stateText(r))
	}
	r.Step(reply(0, 1))
	if index, _, err := r.Propose(nil); index != 65 || err != api.OK {
		t.Errorf("%d, %v", index, err)
	}
	if _, _, err := r.Propose(nil); err != api.ErrFull {
		t.Error(err)
	}
}

// TestP1404ALongLogWaits: what was laid by others counts, too.
func TestP1404ALongLogWaits(t *testing.T) {
	for n, want := range map[int]api.Errno{62: api.OK, 63: api.ErrFull, 64: api.ErrFull, 100: api.ErrFull} {
		r := back(t, 1, []int{1, 2, 3}, none, api.Meta{}, many(0, 0, n)...)
		elect(t, r)
		if _, _, err := r.Propose(nil); err != want {
			t.Errorf("%d: %v", n, err)
		}
	}
}

func TestP1403MAppReplyHowFarAVoterIs(t *testing.T) {
	six := ` [2/1.0"a" 3/1.0"b" 4/1.0"c" 5/1.0"d" 6/1.0"e"]`
	for _, c := range []struct {
		what string
		msgs []api.Msg
		want string // what is sent to 3 behind that
	}{
		{"not OK, at 0", []api.Msg{refusal(3, 0)}, `app 1>3 t1 c1 [1/1.1"" 2/1.0"a" 3/1.0"b" 4/1.0"c" 5/1.0"d" 6/1.0"e"]`}, {"below 0", []api.Msg{refusal(3, -7)}, `app 1>3 t1 c1 [1/1.1"" 2/1.0"a" 3/1.0"b" 4/1.0"c" 5/1.0"d" 6/1.0"e"]`}, {"the greatest", []api.Msg{refusal(3, math.MaxInt)}, `app 1>3 t1 c1 [1/1.1"" 2/1.0"a" 3/1.0"b" 4/1.0"c" 5/1.0"d" 6/1.0"e"]`},
		{"OK", []api.Msg{reply(3, 1)}, `app 1>3 t1 i1 l1 c1` + six}, {"OK, then not OK ahead of it", []api.Msg{reply(3, 4), refusal(3, 2)}, `app 1>3 t1 i4 l1 c1 [5/1.0"d" 6/1.0"e"]`}, {"OK, then less", []api.Msg{reply(3, 4), reply(3, 2)}, `app 1>3 t1 i4 l1 c1 [5/1.0"d" 6/1.0"e"]`}, {"OK, below 0", []api.Msg{reply(3, -2)}, `app 1>3 t1 c1 [1/1.1"" 2/1.0"a" 3/1.0"b" 4/1.0"c" 5/1.0"d" 6/1.0"e"]`}, {"OK, then not OK behind it", []api.Msg{reply(3, 4), refusal(3, 9)}, `app 1>3 t1 i4 l1 c1 [5/1.0"d" 6/1.0"e"]`},
		{"all of it", []api.Msg{reply(3, 6)}, ""}, {"more than all", []api.Msg{reply(3, math.MaxInt)}, ""}, {"all of it, then not OK", []api.Msg{reply(3, 6), refusal(3, 0)}, ""},
	} {
		r := leader(t, false, 1, 2, 3, 4, 5)
		r.Step(reply(4, 1))
		r.Step(reply(5, 1))
		proposes(t, r, "a", "b", "c", "d", "e")
		for _, m := range c.msgs {
			r.Ready()
			r.Step(m)
		}
		if c.want == "" {
			sends(t, r)
		} else {
			sends(t, r, c.want)
		}
	}
}

func TestP1403MAppReplyOfOthers(t *testing.T) {
	r := leader(t, false, 1, 2, 3)
	r.Step(reply(9, 1)) // no voter
	sends(t, r)
	isHard(t, r, 1, 1, 0)
	for what, r := range notLeading(t) {
		ahead := stateText(r)
		m := reply(2, 1)
		m.Term = r.Hard().Term
		r.Step(m)
		sends(t, r)
		if stateText(r) != ahead {
			t.Errorf("%s: %s", what, stateText(r))
		}
	}
}

func TestP1403BatchesOfEight(t *testing.T) {
	r := back(t, 1, []int{1, 2, 3}, none, api.Meta{}, many(0, 0, 20)...)
	elect(t, r)
	r.Step(refusal(2, 0))
	r.Ready()
	for _, c := range []struct{ match, from, n int }{{0, 1, 8}, {8, 9, 8}, {12, 13, 8}, {13, 14, 8}, {14, 15, 7}, {20, 21, 1}} {
		r.Step(reply(2, c.match))
		x := r.Ready()
		if len(x.Msgs) != 1 || x.Msgs[0].Index != c.from-1 || len(x.Msgs[0].Entries) != c.n || x.Msgs[0].Entries[0].Index != c.from {
			t.Errorf("%+v: %q", c, msgsText(x.Msgs))
		}
	}
}

func TestP1403WhatIsCommitted(t *testing.T) {
	for _, c := range []struct {
		voters  []int
		matches []int // of the voters but 1
		want    int
	}{
		{[]int{1}, nil, 6}, {[]int{1, 2}, []int{0}, 0}, {[]int{1, 2}, []int{4}, 4}, {[]int{1, 2, 3}, []int{0, 5}, 5}, {[]int{1, 2, 3}, []int{5, 3}, 5}, {[]int{1, 2, 3}, []int{0, 0}, 0},
		{[]int{1, 2, 3, 4}, []int{5, 0, 0}, 0}, {[]int{1, 2, 3, 4}, []int{5, 4, 0}, 4}, {[]int{1, 2, 3, 4, 5}, []int{6, 5, 4, 3}, 5}, {[]int{0, 1, 2, 3, 4, 5, 6}, []int{6, 5, 2, 0, 0, 0}, 2},
	} {
		r := begun(t, 1, c.voters...)
		elect(t, r)
		for i := range 5 {
			proposes(t, r, fmt.Sprint(i))
		}
		others := slices.DeleteFunc(slices.Clone(c.voters), func(id int) bool { return id == 1 })
		for i, match := range c.matches {
			r.Step(reply(others[i], match))
		}
		isHard(t, r, 1, 1, c.want)
		x := r.Ready()
		if len(x.Commit) != c.want {
			t.Errorf("%+v: %s", c, entriesText(x.Commit))
		}
	}
}

// TestP1403EntriesOfElderTerms are committed by one of its own term alone.
func TestP1403EntriesOfElderTerms(t *testing.T) {
	r := back(t, 1, []int{1, 2, 3}, none, api.Meta{}, many(0, 0, 5)...)
	elect(t, r)
	r.Ready()
	for match := range 6 {
		r.Step(reply(2, match))
		isHard(t, r, 1, 1, 0)
	}
	r.Ready()
	r.Step(reply(2, 6))
	isHard(t, r, 1, 1, 6)
	x := r.Ready()
	if len(x.Commit) != 6 || len(x.Msgs) != 2 {
		t.Error(readyText(x))
	}
}

// TestP1403WhenItIsCommittedAllHearOfIt: then, if the one that answered lacks something, it once more.
func TestP1403WhenItIsCommittedAllHearOfIt(t *testing.T) {
	r := leader(t, false, 1, 2, 3)
	proposes(t, r, "x")
	r.Ready()
	r.Step(reply(2, 1))
	sends(t, r, `app 1>2 t1 i1 l1 c1 [2/1.0"x"]`, `app 1>3 t1 c1 [1/1.1"" 2/1.0"x"]`, `app 1>2 t1 i1 l1 c1 [2/1.0"x"]`)
	r.Step(reply(2, 2))
	sends(t, r, `app 1>2 t1 i2 l1 c2`, `app 1>3 t1 c2 [1/1.1"" 2/1.0"x"]`)
	r.Step(reply(3, 2)) // nothing new
	sends(t, r)
}

func TestP1404ChangeThatIsRefused(t *testing.T) {
	r := leader(t, false, 1, 3)
	for _, c := range []struct {
		voters []int
		want   api.Errno
	}{
		{nil, api.ErrArg}, {[]int{1, 3}, api.ErrArg}, {[]int{1, 4}, api.ErrArg}, {[]int{3, 1, 5}, api.ErrArg}, {[]int{1, 3, 3}, api.ErrArg}, {[]int{1, 1, 3}, api.ErrArg}, {[]int{1, 2, 3, 4}, api.ErrArg}, {[]int{2}, api.ErrArg}, {[]int{1, 2, 4}, api.ErrArg}, {[]int{-1, 1, 3}, api.ErrArg}, {[]int{1, 3, 1 << 30}, api.ErrArg}, {[]int{0, 1, 2}, api.ErrArg},
		{[]int{1}, api.ErrBusy}, {[]int{3}, api.ErrBusy}, {[]int{0, 1, 3}, api.ErrBusy}, {[]int{1, 2, 3}, api.ErrBusy}, {[]int{1, 3, 1<<30 - 1}, api.ErrBusy}, // no entry of its term is committed
	} {
		ahead := stateText(r)
		index, err := r.Change(c.voters...)
		if x := r.Ready(); index != 0 || err != c.want || stateText(r) != ahead || len(x.Msgs) > 0 {
			t.Errorf("%v: %d, %v", c.voters, index, err)
		}
	}
	commits(t, r, 1)
	if _, err := r.Change(1, 2, 3); err != api.OK {
		t.Error(err)
	}
	r.Ready()
	for _, l := range [][]int{{1, 2}, {1, 2, 3, 4}, {1, 3}} {
		if index, err := r.Change(l...); index != 0 || err != api.ErrBusy { // one is under way
			t.Errorf("%v: %d, %v", l, index, err)
		}
	}
	if _, err := r.Change(1, 4); err != api.ErrArg { // ahead of ErrBusy
		t.Error(err)
	}
	sends(t, r)
	commits(t, r, 2)
	if index, err := r.Change(1, 2); index != 3 || err != api.OK {
		t.Errorf("%d, %v", index, err)
	}
}

func TestP1404NoMoreThanSevenVote(t *testing.T) {
	r := leader(t, true, 0, 1, 2, 3, 4, 5)
	if _, err := r.Change(0, 1, 2, 3, 4, 5, 6); err != api.OK {
		t.Error(err)
	}
	commits(t, r, 2)
	if _, err := r.Change(0, 1, 2, 3, 4, 5, 6, 7); err != api.ErrArg {
		t.Error(err)
	}
	if _, err := r.Change(0, 1, 2, 3, 4, 6); err != api.OK {
		t.Error(err)
	}
}

// TestP1404AnEVotersOfAnotherLeader stands above commit, and is in the way.
func TestP1404AnEVotersOfAnotherLeader(t *testing.T) {
	r := back(t, 1, []int{1, 2}, none, api.Meta{}, voters(1, 0, 1, 2, 3))
	elect(t, r)
	if _, err := r.Change(1, 2); err != api.ErrBusy {
		t.Error(err)
	}
	commits(t, r, 2)
	if _, err := r.Change(1, 2); err != api.OK {
		t.Error(err)
	}
}

func TestP1404AVoterThatComes(t *testing.T) {
	r := leader(t, true, 1, 3)
	proposes(t, r, "x")
	r.Ready()
	index, err := r.Change(1, 2, 3)
	if index != 3 || err != api.OK || !slices.Equal(r.Voters(), []int{1, 2, 3}) {
		t.Errorf("%d, %v, %v", index, err, r.Voters())
	}
	change := `3/1.2"\x03\x00\x00\x00\x00\x00\x00\x00\x01\x00\x00\x00\x00\x00\x00\x00\x02\x00\x00\x00\x00\x00\x00\x00\x03"`
	x := sends(t, r, `app 1>2 t1 i2 l1 c1 [`+change+`]`, `app 1>3 t1 i1 l1 c1 [2/1.0"x" `+change+`]`)
	if entriesText(x.Entries) != change {
		t.Error(entriesText(x.Entries))
	}
	r.Step(refusal(2, 0))
	sends(t, r, `app 1>2 t1 c1 [1/1.1"" 2/1.0"x" `+change+`]`)
	r.Step(reply(2, 2)) // its word counts: two of three have 2
	isHard(t, r, 1, 1, 2)
}

func TestP1404AVoterThatGoes(t *testing.T) {
	r := leader(t, true, 1, 2, 3)
	r.Step(reply(2, 1))
	r.Step(reply(3, 1))
	if index, err := r.Change(1, 2); index != 2 || err != api.OK {
		t.Errorf("%d, %v", index, err)
	}
	r.Ready()
	r.Step(reply(3, 2)) // its word does not count any more
	sends(t, r)
	isHard(t, r, 1, 1, 1)
	commits(t, r, 2)
	r.Ready()
	r.Change(1, 2, 3) // nothing is known of it any more
	x := r.Ready()
	if len(x.Msgs) != 2 || x.Msgs[1].To != 3 || x.Msgs[1].Index != 2 || len(x.Msgs[1].Entries) != 1 {
		t.Errorf("%q", msgsText(x.Msgs))
	}
}

// TestP1404ALeaderGoes: it leads till that is committed, without a word of its own.
func TestP1404ALeaderGoes(t *testing.T) {
	r := leader(t, true, 1, 2, 3)
	r.Read(5)
	r.Change(2, 3)
	r.Ready()
	isRole(t, r, raft.Leader, 1)
	proposes(t, r, "x")
	r.Ready()
	r.Step(reply(2, 3))
	isRole(t, r, raft.Leader, 1)
	isHard(t, r, 1, 1, 1)
	r.Ready()
	r.Step(reply(3, 2))
	isHard(t, r, 1, 1, 2)
	isRole(t, r, raft.Follower, -1)
	x := r.Ready()
	if len(x.Msgs) != 2 || x.Msgs[0].Commit != 2 || x.Msgs[1].Commit != 2 || len(x.Reads) > 0 { // that it is committed, and nothing behind it
		t.Error(readyText(x))
	}
	if r.Read(1) != api.ErrLeader {
		t.Error("it reads")
	}
}

// TestP1404OneIsLeft: two vote, and one goes; of one voter all is committed at once.
func TestP1404OneIsLeft(t *testing.T) {
	r := leader(t, true, 1, 2)
	if r.Change(1); r.Hard().Commit != 2 || r.Role() != raft.Leader {
		t.Errorf("%+v", r.Hard())
	}
	sends(t, r)
	r = leader(t, true, 1)
	r.Change(1, 2)
	isHard(t, r, 1, 1, 1)
	commits(t, r, 2)
	if r.Change(2); r.Hard().Commit != 2 {
		t.Errorf("%+v", r.Hard())
	}
	r.Step(reply(2, 3))
	isHard(t, r, 1, 1, 3)
	isRole(t, r, raft.Follower, -1)
}

func TestP1404Read(t *testing.T) {
	r := leader(t, false, 1, 2, 3)
	if err := r.Read(4); err != api.ErrReady {
		t.Error(err)
	}
	sends(t, r)
	commits(t, r, 1)
	proposes(t, r, "x")
	r.Ready()
	if err := r.Read(4); err != api.OK {
		t.Error(err)
	}
	sends(t, r, `app 1>2 t1 i1 l1 c1 s1 [2/1.0"x"]`, `app 1>3 t1 c1 s1 [1/1.1"" 2/1.0"x"]`)
	hears := func(from, seq int, ok bool, want ...raft.Read) {
		t.Helper()
		m := reply(from, 1)
		m.Seq, m.OK = seq, ok
		r.Step(m)
		if x := r.Ready(); !slices.Equal(x.Reads, want) {
			t.Errorf("%d heard of %d: %v, not %v", from, seq, x.Reads, want)
		}
	}
	hears(2, 0, true)
	hears(3, 1, false, raft.Read{Ctx: 4, Index: 1}) // also one that refuses has heard
	r.Read(6)
	r.Read(7)
	commits(t, r, 2)
	r.Read(8)
	r.Ready()
	hears(2, 1, true)
	hears(2, 3, true, raft.Read{Ctx: 6, Index: 1}, raft.Read{Ctx: 7, Index: 1})
	hears(2, 2, true)
	hears(3, 99, true, raft.Read{Ctx: 8, Index: 2}) // or a later one
	hears(3, 99, true)
}

func TestP1404AReadOfOneVoter(t *testing.T) {
	r := leader(t, true, 1)
	r.Read(-4)
	if x := sends(t, r); !slices.Equal(x.Reads, []raft.Read{{Ctx: -4, Index: 1}}) {
		t.Errorf("%v", x.Reads)
	}
}

func TestP1404SixtyFourReadsWait(t *testing.T) {
	r := leader(t, true, 1, 2)
	for i := range 64 {
		if err := r.Read(i); err != api.OK {
			t.Fatal(err)
		}
	}
	r.Ready()
	if err := r.Read(64); err != api.ErrMany {
		t.Error(err)
	}
	sends(t, r)
	m := reply(2, 1)
	m.Seq = 1
	r.Step(m)
	if x := r.Ready(); len(x.Reads) != 1 {
		t.Errorf("%v", x.Reads)
	}
	if r.Read(64) != api.OK || r.Read(65) != api.ErrMany {
		t.Error("one waits less, and one more")
	}
	if x := sends(t, r, "app 1>2 t1 i1 l1 c1 s65"); len(x.Reads) > 0 { // what is refused makes no round
		t.Error(readyText(x))
	}
}

// TestP1404WhoLeadsNoMoreForgetsReads: also if it leads again.
func TestP1404WhoLeadsNoMoreForgetsReads(t *testing.T) {
	r := leader(t, true, 1, 2)
	r.Read(7)
	r.Step(api.Msg{Kind: api.MVoteReply, From: 2, To: 1, Term: 4})
	elect(t, r)
	m := reply(2, 2)
	m.Term, m.Seq = 5, 1
	r.Step(m)
	if x := r.Ready(); len(x.Reads) > 0 {
		t.Errorf("%v", x.Reads)
	}
	r.Read(8)
	sends(t, r, "app 1>2 t5 i2 l5 c2 s1")
}

// TestP1404ConfirmedReadsAreTold: though it leads no more.
func TestP1404ConfirmedReadsAreTold(t *testing.T) {
	r := leader(t, true, 1, 2)
	r.Read(7)
	m := reply(2, 1)
	m.Seq = 1
	r.Step(m)
	r.Step(api.Msg{Kind: api.MVoteReply, From: 2, To: 1, Term: 4})
	if x := r.Ready(); !slices.Equal(x.Reads, []raft.Read{{Ctx: 7, Index: 1}}) {
		t.Errorf("%v", x.Reads)
	}
}

// TestP1404ReadsWhereVotersChange: most of those that vote now.
func TestP1404ReadsWhereVotersChange(t *testing.T) {
	r := leader(t, true, 1, 2, 3, 4)
	r.Read(7)
	m := reply(2, 1)
	m.Seq = 1
	r.Step(m)
	if x := r.Ready(); len(x.Reads) > 0 { // two of four
		t.Errorf("%v", x.Reads)
	}
	r.Change(1, 2, 3)
	if x := r.Ready(); len(x.Reads) != 1 { // two of three
		t.Errorf("%v", x.Reads)
	}
	r = leader(t, true, 1)
	r.Change(1, 2)
	r.Read(7)
	if x := r.Ready(); len(x.Reads) > 0 {
		t.Errorf("%v", x.Reads)
	}
	r.Change(1)
	m.Seq = 1
	r.Step(m)
	if x := r.Ready(); len(x.Reads) != 1 {
		t.Errorf("%v", x.Reads)
	}
}

// TestP1404ALeaderThatGoesHasNoWord: also of rounds.
func TestP1404ALeaderThatGoesHasNoWord(t *testing.T) {
	r := leader(t, true, 1, 2)
	r.Change(2)
	r.Read(7)
	if x := r.Ready(); len(x.Reads) > 0 {
		t.Errorf("%v", x.Reads)
	}
	m := reply(2, 1)
	m.Seq = 1
	r.Step(m)
	if x := r.Ready(); len(x.Reads) != 1 {
		t.Errorf("%v", x.Reads)
	}
}
