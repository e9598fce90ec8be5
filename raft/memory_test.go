package raft_test

import (
	"fmt"
	"math"
	"math/rand"
	"slices"
	"testing"

	"horologe/api"
	"horologe/raft"
)

// roomy is a list with spare room, in which something stands.
func roomy[T any](list []T, spare T) []T {
	out := make([]T, len(list), len(list)+2)
	copy(out, list)
	out[:cap(out)][len(list)] = spare
	return out
}

// spoil turns all of a list, its spare room too.
func spoil[T any](list []T, by T) {
	list = list[:cap(list)]
	for i := range list {
		list[i] = by
	}
}

func spoilEntries(list []api.Entry) {
	for _, e := range list {
		spoil(e.Data, 'Z')
	}
	spoil(list, api.Entry{Index: 77})
}

func spoilMsgs(list []api.Msg) {
	for _, m := range list {
		spoilEntries(m.Entries)
		spoil(m.Meta.Voters, 77)
		spoil(m.Data, 'Z')
	}
	spoil(list, api.Msg{Kind: 77})
}

func spoilReady(x raft.Ready) {
	spoil(x.Meta.Voters, 77)
	spoil(x.Data, 'Z')
	spoilEntries(x.Entries)
	spoilMsgs(x.Msgs)
	spoilEntries(x.Commit)
	spoil(x.Reads, raft.Read{Ctx: 77})
}

// TestP2WhatIsHandedInIsNotKept: all of it is turned behind the call.
func TestP2WhatIsHandedInIsNotKept(t *testing.T) {
	ids, meta, content := roomy([]int{1, 2}, 9), api.Meta{Index: 3, Term: 1, Voters: roomy([]int{1, 2}, 9)}, roomy([]byte("snap"), 'q')
	log := roomy([]api.Entry{{Index: 4, Term: 1, Data: roomy([]byte("four"), 'q')}, voters(5, 1, 1, 2)}, api.Entry{Index: 6})
	r, _ := raft.New(1, ids, none, meta, content, log)
	if ids[:3][2] != 9 || content[:5][4] != 'q' || log[:3][2].Index != 6 || log[0].Data[:5][4] != 'q' {
		t.Error("the spare room was changed")
	}
	ahead := stateText(r)
	spoil(ids, 77)
	spoil(meta.Voters, 77)
	spoil(content, 'Z')
	spoilEntries(log)
	if stateText(r) != ahead {
		t.Errorf("%s, ahead of it %s", stateText(r), ahead)
	}
	elect(t, r)
	text := roomy([]byte("proposed"), 'q')
	r.Propose(text)
	if text[:9][8] != 'q' {
		t.Error("the spare room was changed")
	}
	spoil(text, 'Z')
	m := refusal(2, 0)
	m.Term = r.Hard().Term
	r.Step(m)
	x := r.Ready()
	if s := x.Msgs[len(x.Msgs)-1]; s.Kind != api.MSnap || string(s.Data) != "snap" || fmt.Sprint(s.Meta.Voters) != "[1 2]" {
		t.Errorf("%s", msgText(s))
	}
	if string(x.Entries[1].Data) != "proposed" {
		t.Errorf("%s", entriesText(x.Entries))
	}
	commits(t, r, 7)
	r.Ready()
	more := roomy([]int{1, 2, 3}, 9)
	r.Change(more...)
	spoil(more, 77)
	shot := roomy([]byte("shot"), 'q')
	r.Compact(6, shot)
	spoil(shot, 'Z')
	m = refusal(3, 0)
	m.Term = r.Hard().Term
	r.Step(m)
	x = r.Ready()
	if s := x.Msgs[len(x.Msgs)-1]; string(s.Data) != "shot" || fmt.Sprint(r.Voters()) != "[1 2 3]" {
		t.Errorf("%s, %v", msgText(s), r.Voters())
	}
}

func TestP2MessagesAreNotKept(t *testing.T) {
	r := follower(t, 1)
	m := app(4, 2, 5)
	m.Entries = roomy([]api.Entry{{Index: 5, Term: 3, Data: roomy([]byte("five"), 'q')}, voters(6, 3, 0, 2)}, api.Entry{Index: 7})
	r.Step(m)
	if m.Entries[:3][2].Index != 7 || m.Entries[0].Data[:5][4] != 'q' {
		t.Error("the spare room was changed")
	}
	ahead := stateText(r)
	spoilMsgs([]api.Msg{m})
	if stateText(r) != ahead {
		t.Errorf("%s, ahead of it %s", stateText(r), ahead)
	}
	m = snap(9, 3, "nine")
	r.Step(m)
	ahead = stateText(r)
	spoilMsgs([]api.Msg{m})
	if x := r.Ready(); stateText(r) != ahead || string(x.Data) != "nine" || fmt.Sprint(x.Meta.Voters) != "[0 2 5]" {
		t.Errorf("%s, ahead of it %s", stateText(r), ahead)
	}
}

// TestP2AnswersAreTheCallersOwn: all that is told is turned, by a node that goes through the same as another one.
func TestP2AnswersAreTheCallersOwn(t *testing.T) {
	for seed := range int64(30) {
		one, other := drawn(t, seed), drawn(t, seed)
		for i := range 200 {
			one.step()
			other.step()
			x, y := one.r.Ready(), other.r.Ready()
			if readyText(x) != readyText(y) || stateText(one.r) != stateText(other.r) {
				t.Fatalf("seed %d, step %d: %s, not %s", seed, i, readyText(x), readyText(y))
			}
			spoilReady(x)
			spoilEntries(one.r.Log())
			spoil(one.r.Voters(), 77)
			spoil(one.r.Meta().Voters, 77)
		}
	}
}

// TestP2ListsOfOneAnswer share no memory: each one is turned, and the others are not.
func TestP2ListsOfOneAnswer(t *testing.T) {
	r := back(t, 1, []int{1, 2, 3}, none, api.Meta{Index: 2, Term: 0, Voters: []int{1, 2, 3}})
	elect(t, r)
	proposes(t, r, "abc")
	r.Step(reply(2, 4))
	r.Step(refusal(3, 1))
	r.Step(refusal(3, 1))
	x := r.Ready()
	texts := func() []string {
		out := []string{entriesText(x.Entries), entriesText(x.Commit)}
		return append(out, msgsText(x.Msgs)...)
	}
	want := texts()
	if len(x.Commit) != 2 || len(x.Msgs) < 6 {
		t.Fatal(readyText(x))
	}
	for i, turn := range []func(){func() { spoil(x.Entries[1].Data, 'Z') }, func() { spoil(x.Commit[1].Data, 'Z') }} {
		turn()
		for j, s := range texts() {
			if (s == want[j]) != (i != j) {
				t.Errorf("%d turned: %s, ahead of it %s", i, s, want[j])
			}
		}
		want = texts()
	}
	for i, m := range x.Msgs {
		spoilMsgs([]api.Msg{m})
		for j, s := range texts()[2:] {
			if i != j && s != want[2+j] {
				t.Errorf("message %d turned: %s, ahead of it %s", i, s, want[2+j])
			}
		}
		want = texts()
	}
}

func TestP7NodesHaveNothingInCommon(t *testing.T) {
	log := many(0, 0, 5)
	one, other := back(t, 1, []int{1}, none, api.Meta{}, log...), back(t, 1, []int{1}, none, api.Meta{}, log...)
	ahead := stateText(other)
	elect(t, one)
	proposes(t, one, "x")
	one.Change(1, 2)
	one.Ready()
	one.Compact(3, []byte("s"))
	if x := other.Ready(); stateText(other) != ahead || readyText(x) != readyText(raft.Ready{}) {
		t.Errorf("%s, %s", stateText(other), readyText(x))
	}
}

// drawn is a story of one node, by a seed.
func drawn(t *testing.T, seed int64) *story {
	ids := []int{0, 1, 2}
	return &story{Rand: rand.New(rand.NewSource(seed)), r: back(t, 1, ids, none, api.Meta{}), m: newModel(1, ids, none, api.Meta{}, "snap", nil), alone: seed%2 == 0}
}

// step does what is drawn to both.
func (s *story) step() { s.call() }

func TestP3TheSameCallsAnswerTheSame(t *testing.T) {
	for seed := range int64(20) {
		one, other := drawn(t, seed), drawn(t, seed)
		for i := range 300 {
			a, _ := one.call()
			b, _ := other.call()
			if a != b || stateText(one.r) != stateText(other.r) {
				t.Fatalf("seed %d, step %d: %s and %s", seed, i, a, b)
			}
		}
	}
}

// odd draws numbers that are mostly out of bounds.
func odd(d *rand.Rand) int {
	return []int{0, 1, 2, 3, -1, 4, 9, 1 << 30, 1<<30 - 1, 1 << 62, 1<<62 + 1, math.MaxInt, math.MinInt, 1_000_000_000_000}[d.Intn(14)]
}

func oddEntries(d *rand.Rand) []api.Entry {
	var l []api.Entry
	for range d.Intn(3) {
		l = append(l, api.Entry{Index: odd(d), Term: odd(d), Kind: d.Intn(5) - 1, Data: []byte("\x01\x00\x00\x00\x00\x00\x00\x00\x01xyz")[:d.Intn(13)]})
	}
	return l
}

func oddVoters(d *rand.Rand) []int {
	return [][]int{nil, {1}, {0, 1}, {1, 2, 3}, {3, 2}, {-1, 1}, {1, 1}, {math.MaxInt}, {0, 1, 2, 3, 4, 5, 6, 7}}[d.Intn(9)]
}

// TestP1WhateverIsHandedIn: no call panics, also of a node that is not of New.
func TestP1WhateverIsHandedIn(t *testing.T) {
	for seed := range int64(300) {
		d := rand.New(rand.NewSource(seed))
		r := new(raft.Raft)
		if seed%3 > 0 {
			r = begun(t, 1, oddOr(oddVoters(d), []int{1})...)
		}
		for range 200 {
			m := api.Msg{Kind: d.Intn(7), From: odd(d), To: d.Intn(2), Term: odd(d), Index: odd(d), LogTerm: odd(d), Entries: oddEntries(d), Commit: odd(d), Seq: odd(d), OK: d.Intn(2) == 0, Match: odd(d), Meta: api.Meta{Index: odd(d), Term: odd(d), Voters: oddVoters(d)}, Data: []byte("x")}
			if d.Intn(3) > 0 {
				m.Term, m.Entries = r.Hard().Term, nil
			}
			r.Step(m)
			r.Tick(odd(d))
			r.Propose([]byte("x"))
			r.Change(oddVoters(d)...)
			r.Read(odd(d))
			r.Compact(odd(d), nil)
			if d.Intn(2) == 0 {
				r.Ready()
			}
			stateText(r)
			raft.New(odd(d), oddVoters(d), api.Hard{Term: odd(d), Vote: odd(d), Commit: odd(d)}, api.Meta{Index: odd(d), Term: odd(d), Voters: oddVoters(d)}, nil, oddEntries(d))
		}
	}
}

// oddOr is a list, if voters may be so, or else another one.
func oddOr(list, other []int) []int {
	if len(list) == 0 || len(list) > 7 || !slices.IsSorted(list) || list[0] < 0 || list[0] > 9 || len(slices.Compact(slices.Clone(list))) < len(list) {
		return other
	}
	return list
}

func TestP1ANodeThatIsNotOfNew(t *testing.T) {
	r := new(raft.Raft)
	isRole(t, r, raft.Follower, -1)
	for range 50 {
		r.Tick(0)
	}
	isRole(t, r, raft.Follower, -1)
	if _, _, err := r.Propose(nil); err != api.ErrLeader {
		t.Error(err)
	}
}
