package raft_test

import (
	"fmt"
	"math"
	"testing"

	"horologe/api"
	"horologe/raft"
)

// passes holds a message against a node that has something of all: it must change nothing, or something.
func passes(t *testing.T, what string, m api.Msg, want bool) {
	t.Helper()
	r := follower(t, 1)
	ahead := stateText(r)
	r.Step(m)
	x := r.Ready()
	if got := stateText(r) == ahead && readyText(x) == readyText(raft.Ready{}); got != want {
		t.Errorf("%s: passed over: %v: %s, %s", what, got, stateText(r), readyText(x))
	}
}

// TestP1403WhatIsPassedOver: all messages are of a later term, so that each one that is taken changes something.
func TestP1403WhatIsPassedOver(t *testing.T) {
	long := make([]byte, 1<<23+1)
	for _, c := range []struct {
		what string
		turn func(m *api.Msg)
		want bool
	}{
		{"nothing", func(m *api.Msg) {}, false},
		{"to another one", func(m *api.Msg) { m.To = 1 }, true}, {"to nobody", func(m *api.Msg) { m.To = -1 }, true}, {"Kind 0", func(m *api.Msg) { m.Kind = 0 }, true}, {"Kind -1", func(m *api.Msg) { m.Kind = -1 }, true}, {"Kind 6", func(m *api.Msg) { m.Kind = 6 }, true},
		{"from itself", func(m *api.Msg) { m.From = 2 }, true}, {"from -1", func(m *api.Msg) { m.From = -1 }, true}, {"from the last id", func(m *api.Msg) { m.From = 1<<30 - 1 }, false}, {"from one more", func(m *api.Msg) { m.From = 1 << 30 }, true},
		{"Term -1", func(m *api.Msg) { m.Term, m.Entries = -1, nil }, true}, {"the least Term", func(m *api.Msg) { m.Term, m.Entries = math.MinInt, nil }, true}, {"Term 2^62", func(m *api.Msg) { m.Term = 1 << 62 }, false}, {"one more", func(m *api.Msg) { m.Term = 1<<62 + 1 }, true},
		{"no entries", func(m *api.Msg) { m.Entries = nil }, false}, {"no entries, and any LogTerm", func(m *api.Msg) { m.Entries, m.LogTerm = nil, math.MaxInt }, false}, {"the first one too far", func(m *api.Msg) { m.Index = 2 }, true}, {"too near", func(m *api.Msg) { m.Index = 4 }, true}, {"a gap", func(m *api.Msg) { m.Entries[1].Index = 6 }, true}, {"one twice", func(m *api.Msg) { m.Entries[1].Index = 4 }, true}, {"behind the greatest", func(m *api.Msg) { m.Index, m.Entries = math.MaxInt, []api.Entry{data(math.MinInt, 3, "")} }, true}, {"up to the greatest", func(m *api.Msg) { m.Index, m.Entries = math.MaxInt-1, []api.Entry{data(math.MaxInt, 3, "")} }, false}, {"far behind", func(m *api.Msg) {
			m.Index, m.LogTerm, m.Entries = -9, -9, []api.Entry{data(-8, -9, ""), data(-7, 0, "")}
		}, false},
		{"a Kind -1", func(m *api.Msg) { m.Entries[0].Kind = -1 }, true}, {"a Kind 3", func(m *api.Msg) { m.Entries[1].Kind = 3 }, true}, {"an EEmpty with Data", func(m *api.Msg) { m.Entries[0].Kind = 1 }, false}, {"an EVoters of no voters", func(m *api.Msg) { m.Entries[0].Kind = 2 }, true}, {"of some", func(m *api.Msg) { m.Entries[0] = voters(4, 2, 0, 2) }, false}, {"falling", func(m *api.Msg) { m.Entries[0] = voters(4, 2, 2, 0) }, true},
		{"Data as long as may be", func(m *api.Msg) { m.Entries[0].Data = long[:api.MaxRecord] }, false}, {"one byte more", func(m *api.Msg) { m.Entries[0].Data = long[:api.MaxRecord+1] }, true},
		{"a Term below LogTerm", func(m *api.Msg) { m.LogTerm = 3 }, true}, {"a Term that falls", func(m *api.Msg) { m.Entries[0].Term = 9 }, true}, {"at Term", func(m *api.Msg) { m.Entries[1].Term = 9 }, false}, {"above Term", func(m *api.Msg) { m.Entries[1].Term = 10 }, true},
		{"a Meta that may not be, of no MSnap", func(m *api.Msg) { m.Meta, m.Data = api.Meta{Index: -1, Term: -1}, long }, false},
	} {
		for kind := api.MVote; kind <= api.MAppReply; kind++ {
			m := api.Msg{Kind: kind, From: 0, To: 2, Term: 9, Index: 3, LogTerm: 2, Entries: []api.Entry{data(4, 2, "x"), data(5, 8, "y")}}
			c.turn(&m)
			passes(t, fmt.Sprint(c.what, " of kind ", kind), m, c.want)
		}
	}
	for _, c := range []struct {
		what string
		turn func(m *api.Msg)
		want bool
	}{
		{"nothing", func(m *api.Msg) {}, false}, {"Index 0", func(m *api.Msg) { m.Meta.Index = 0 }, true}, {"Index 1", func(m *api.Msg) { m.Meta.Index = 1 }, false}, {"the last Index", func(m *api.Msg) { m.Meta.Index = 999999999999 }, false}, {"one more", func(m *api.Msg) { m.Meta.Index = 1000000000000 }, true}, {"Index -1", func(m *api.Msg) { m.Meta.Index = -1 }, true},
		{"no voters", func(m *api.Msg) { m.Meta.Voters = nil }, true}, {"falling", func(m *api.Msg) { m.Meta.Voters = []int{2, 0} }, true}, {"seven", func(m *api.Msg) { m.Meta.Voters = []int{0, 1, 2, 3, 4, 5, 6} }, false}, {"eight", func(m *api.Msg) { m.Meta.Voters = []int{0, 1, 2, 3, 4, 5, 6, 7} }, true}, {"no id", func(m *api.Msg) { m.Meta.Voters = []int{1 << 30} }, true},
		{"Term -1", func(m *api.Msg) { m.Meta.Term = -1 }, true}, {"Term 0", func(m *api.Msg) { m.Meta.Term = 0 }, false}, {"at m's Term", func(m *api.Msg) { m.Meta.Term = 9 }, false}, {"above", func(m *api.Msg) { m.Meta.Term = 10 }, true}, {"Data as long as may be", func(m *api.Msg) { m.Data = long[1:] }, false}, {"one byte more", func(m *api.Msg) { m.Data = long }, true}, {"entries that may not be", func(m *api.Msg) { m.Entries = []api.Entry{data(2, 1, "")} }, true}, {"entries that may be", func(m *api.Msg) { m.Entries = []api.Entry{data(1, 1, "")} }, false}, {"to another one", func(m *api.Msg) { m.To = 0 }, true},
	} {
		m := snap(6, 3, "s")
		m.Term = 9
		c.turn(&m)
		passes(t, "MSnap: "+c.what, m, c.want)
	}
}

// roles are nodes 2 of term 3, each in another role, with entries up to 4 (of term 2; a leader has its EEmpty, too).
func roles(t *testing.T) map[string]*raft.Raft {
	t.Helper()
	log := []api.Entry{data(1, 1, "a"), data(2, 1, "b"), data(3, 2, "c"), data(4, 2, "d")}
	all := map[string]*raft.Raft{}
	for _, name := range []string{"follower", "candidate", "leader"} {
		r := back(t, 2, []int{0, 1, 2}, api.Hard{Term: 2, Vote: 1, Commit: 1}, api.Meta{}, log...)
		if name == "follower" {
			r.Step(api.Msg{Kind: api.MApp, From: 0, To: 2, Term: 3})
		} else {
			ticks(r, 0, 40)
		}
		if name == "leader" {
			r.Step(api.Msg{Kind: api.MVoteReply, From: 0, To: 2, Term: 3, OK: true})
		}
		r.Ready()
		all[name] = r
	}
	return all
}

// kinds are messages of all kinds from 1 to 2, of a term.
func kinds(term int) map[string]api.Msg {
	m := api.Msg{From: 1, To: 2, Term: term, Seq: 7}
	all := map[string]api.Msg{}
	for name, kind := range map[string]int{"MVote": api.MVote, "MVoteReply": api.MVoteReply, "MApp": api.MApp, "MAppReply": api.MAppReply, "MSnap": api.MSnap} {
		x := m
		x.Kind = kind
		if kind == api.MSnap {
			x.Meta = api.Meta{Index: 9, Term: 1, Voters: []int{1, 2}}
		}
		all[name] = x
	}
	return all
}

func TestP1403ATermBelowItsOwn(t *testing.T) {
	for role, last := range map[string]int{"follower": 4, "candidate": 4, "leader": 5} {
		for kind, want := range map[string][]string{"MVote": {"voted 2>1 t3"}, "MVoteReply": nil, "MApp": {fmt.Sprintf("apped 2>1 t3 s7 m%d", last)}, "MAppReply": nil, "MSnap": {fmt.Sprintf("apped 2>1 t3 s7 m%d", last)}} {
			r := roles(t)[role]
			ahead := stateText(r)
			for term := range 3 {
				m := kinds(term)[kind]
				m.OK, m.Match = true, 3
				if kind == "MSnap" {
					m.Meta.Term = 0
				}
				r.Step(m)
				sends(t, r, want...)
			}
			if stateText(r) != ahead {
				t.Errorf("%s, %s: %s, ahead of it %s", role, kind, stateText(r), ahead)
			}
		}
	}
}

func TestP1403ATermAboveItsOwn(t *testing.T) {
	for _, role := range []string{"follower", "candidate", "leader"} {
		for kind, want := range map[string][]string{"MVote": {"voted 2>1 t9"}, "MVoteReply": nil, "MApp": {"apped 2>1 t9 s7 m1 ok"}, "MAppReply": nil, "MSnap": {"apped 2>1 t9 s7 m9 ok"}} {
			r := roles(t)[role]
			m := kinds(9)[kind]
			m.OK = true
			r.Step(m)
			x := sends(t, r, want...)
			leads := -1
			if kind == "MApp" || kind == "MSnap" {
				leads = 1
			}
			isRole(t, r, raft.Follower, leads)
			if !x.HasHard || x.Hard.Term != 9 || x.Hard.Vote != -1 {
				t.Errorf("%s, %s: %+v", role, kind, x.Hard)
			}
		}
	}
}

// TestP1403ItsOwnTerm: what each role does with each kind.
func TestP1403ItsOwnTerm(t *testing.T) {
	for _, c := range []struct {
		role, kind string
		want       []string
		turned     bool // it follows 1 then
	}{
		{"follower", "MVote", []string{"voted 2>1 t3"}, false}, {"follower", "MVoteReply", nil, false}, {"follower", "MApp", []string{"apped 2>1 t3 s7 m1 ok"}, true}, {"follower", "MAppReply", nil, false}, {"follower", "MSnap", []string{"apped 2>1 t3 s7 m9 ok"}, true},
		{"candidate", "MVote", []string{"voted 2>1 t3"}, false}, {"candidate", "MVoteReply", nil, false}, {"candidate", "MApp", []string{"apped 2>1 t3 s7 m1 ok"}, true}, {"candidate", "MAppReply", nil, false}, {"candidate", "MSnap", []string{"apped 2>1 t3 s7 m9 ok"}, true},
		{"leader", "MVote", []string{"voted 2>1 t3"}, false}, {"leader", "MVoteReply", nil, false}, {"leader", "MApp", nil, false}, {"leader", "MAppReply", []string{`app 2>1 t3 c1 [1/1.0"a" 2/1.0"b" 3/2.0"c" 4/2.0"d" 5/3.1""]`}, false}, {"leader", "MSnap", nil, false},
	} {
		r := roles(t)[c.role]
		role, leads := r.Role(), r.Leader()
		if c.turned {
			role, leads = raft.Follower, 1
		}
		r.Step(kinds(3)[c.kind])
		sends(t, r, c.want...)
		isRole(t, r, role, leads)
		if r.Hard().Term != 3 {
			t.Errorf("%+v", r.Hard())
		}
	}
}

func TestP1403MVote(t *testing.T) {
	for _, c := range []struct {
		vote, index, logTerm int
		want                 bool
	}{
		{-1, 4, 2, true}, {0, 4, 2, true}, {1, 4, 2, false}, {2, 4, 2, false}, {1 << 40, 4, 2, false}, // for whom it voted
		{-1, 3, 2, false}, {-1, 5, 2, true}, {-1, 9, 1, false}, {-1, 0, 3, true}, {-1, -5, 3, true}, {-1, math.MaxInt, 1, false}, {-1, 4, math.MinInt, false}, {0, 3, 2, false},
	} {
		r := back(t, 2, []int{0, 1, 2}, api.Hard{Term: 3, Vote: c.vote}, api.Meta{}, data(1, 1, ""), data(2, 1, ""), data(3, 2, ""), data(4, 2, ""))
		r.Step(api.Msg{Kind: api.MVote, From: 0, To: 2, Term: 3, Index: c.index, LogTerm: c.logTerm, Seq: 9, Commit: 9, Match: 9})
		want, vote := "voted 2>0 t3", c.vote
		if c.want {
			want, vote = "voted 2>0 t3 ok", 0
		}
		sends(t, r, want)
		isHard(t, r, 3, vote, 0)
	}
	r := begun(t, 2, 0, 1, 2) // one that is no voter votes, and is voted for
	r.Step(api.Msg{Kind: api.MVote, From: 9, To: 2, Term: 3})
	r.Step(api.Msg{Kind: api.MVote, From: 9, To: 2, Term: 3})
	r.Step(api.Msg{Kind: api.MVote, From: 0, To: 2, Term: 3})
	sends(t, r, "voted 2>9 t3 ok", "voted 2>9 t3 ok", "voted 2>0 t3")
	r = back(t, 2, []int{0}, none, api.Meta{Index: 4, Term: 2, Voters: []int{0}}) // the last entry is the snapshot's
	r.Step(api.Msg{Kind: api.MVote, From: 0, To: 2, Term: 3, Index: 3, LogTerm: 2})
	r.Step(api.Msg{Kind: api.MVote, From: 0, To: 2, Term: 3, Index: 4, LogTerm: 2})
	sends(t, r, "voted 2>0 t3", "voted 2>0 t3 ok")
}

func TestP1403MVoteReply(t *testing.T) {
	for _, c := range []struct {
		what string
		m    api.Msg
		want int
	}{
		{"a vote", api.Msg{From: 1, Term: 3, OK: true}, raft.Leader}, {"no vote", api.Msg{From: 1, Term: 3}, raft.Candidate}, {"of no voter", api.Msg{From: 5, Term: 3, OK: true}, raft.Candidate}, {"of an elder term", api.Msg{From: 1, Term: 2, OK: true}, raft.Candidate}, {"of a later term", api.Msg{From: 1, Term: 4, OK: true}, raft.Follower},
	} {
		r := roles(t)["candidate"]
		c.m.Kind, c.m.To = api.MVoteReply, 2
		r.Step(c.m)
		if r.Role() != c.want {
			t.Errorf("%s: role %d", c.what, r.Role())
		}
	}
	r := roles(t)["leader"]
	ahead := stateText(r)
	r.Step(api.Msg{Kind: api.MVoteReply, From: 1, To: 2, Term: 3, OK: true}) // one more vote
	if x := sends(t, r); stateText(r) != ahead || len(x.Entries) > 0 {
		t.Error("it leads anew")
	}
}

func TestP1403MApp(t *testing.T) {
	log := []api.Entry{data(1, 1, "a"), data(2, 1, "b"), data(3, 2, "c"), data(4, 2, "d")}
	x, y := data(4, 3, "x"), data(5, 3, "y")
	for _, c := range []struct {
		what   string
		commit int
		m      api.Msg
		reply  string
		log    []api.Entry
		then   int // commit behind it
	}{
		{"nothing new", 1, app(4, 2, 0), "m4 ok", log, 1}, {"ahead of commit", 3, app(2, 1, 9, data(3, 3, "x")), "m3 ok", log, 3}, {"ahead of commit, and of another term", 3, app(2, 7, 9), "m3 ok", log, 3}, {"ahead of all", 1, app(-4, 0, 9), "m1 ok", log, 1}, {"at commit", 3, app(3, 2, 0, x), "m4 ok", append(log[:3:3], x), 3},
		{"behind last", 1, app(5, 2, 9), "m4", log, 1}, {"far behind last", 1, app(9, 2, 9), "m4", log, 1}, {"of another term", 1, app(3, 1, 9), "m2", log, 1}, {"of another term, at last", 1, app(4, 3, 9), "m3", log, 1}, {"of another term, at 0", 0, app(0, 2, 9), "m-1", log, 0}, {"at 0", 0, app(0, 0, 0), "ok", log, 0},
		{"one behind the log", 1, app(4, 2, 0, y), "m5 ok", append(log[:4:4], y), 1}, {"in the place of the last", 1, app(3, 2, 0, x), "m4 ok", append(log[:3:3], x), 1}, {"in the place of the last, and behind", 1, app(3, 2, 0, x, y), "m5 ok", append(log[:3:3], x, y), 1}, {"in the place of two", 1, app(2, 1, 0, data(3, 3, "z")), "m3 ok", append(log[:2:2], data(3, 3, "z")), 1},
		{"those that it has", 1, app(1, 1, 0, log[1:3]...), "m3 ok", log, 1}, {"with other Data, of their Terms", 1, app(1, 1, 0, data(2, 1, "q")), "m2 ok", log, 1}, {"those that it has, then others", 1, app(1, 1, 0, log[1], data(3, 3, "z")), "m3 ok", append(log[:2:2], data(3, 3, "z")), 1}, {"others, then a Term that it has there", 1, app(1, 1, 0, data(2, 2, "q"), data(3, 2, "c")), "m3 ok", []api.Entry{log[0], data(2, 2, "q"), data(3, 2, "c")}, 1},
		{"commit within Entries", 1, app(1, 1, 2, log[1:3]...), "m3 ok", log, 2}, {"at their end", 1, app(1, 1, 3, log[1:3]...), "m3 ok", log, 3}, {"beyond it", 1, app(1, 1, 4, log[1:3]...), "m3 ok", log, 3}, {"without entries", 1, app(3, 2, 4), "m3 ok", log, 3}, {"less than its own", 3, app(4, 2, 2), "m4 ok", log, 3}, {"below 0", 1, app(4, 2, -9), "m4 ok", log, 1}, {"the greatest", 1, app(4, 2, math.MaxInt, y), "m5 ok", append(log[:4:4], y), 5},
	} {
		r := follower(t, c.commit)
		c.m.Seq = -3
		r.Step(c.m)
		want := "apped 2>0 t3 s-3"
		if c.reply != "" {
			want += " " + c.reply
		}
		sends(t, r, want)
		isLog(t, r, c.log...)
		isHard(t, r, 3, -1, c.then)
		isRole(t, r, raft.Follower, 0)
	}
}

func TestP1403WhoLeads(t *testing.T) {
	r := follower(t, 1)
	for _, c := range []struct{ from, term, want int }{{0, 3, 0}, {1, 3, 1}, {7, 3, 7}, {0, 2, 7}, {0, 4, 0}} {
		r.Step(api.Msg{Kind: api.MApp, From: c.from, To: 2, Term: c.term})
		isRole(t, r, raft.Follower, c.want)
	}
	r.Step(api.Msg{Kind: api.MAppReply, From: 0, To: 2, Term: 5})
	isRole(t, r, raft.Follower, -1)
}

// TestP1403VotersOfTheLog: an EVoters counts as soon as it is there, and no longer.
func TestP1403VotersOfTheLog(t *testing.T) {
	r := follower(t, 1)
	votes := func(want string) {
		t.Helper()
		if got := fmt.Sprint(r.Voters()); got != want {
			t.Errorf("%s vote, not %s", got, want)
		}
	}
	r.Step(app(4, 2, 0, voters(5, 3, 2, 9), data(6, 3, "")))
	votes("[2 9]")
	r.Step(app(6, 3, 0, voters(7, 3, 1<<30-1)))
	votes("[1073741823]")
	r.Step(api.Msg{Kind: api.MApp, From: 0, To: 2, Term: 4, Index: 5, LogTerm: 3, Entries: []api.Entry{data(6, 4, "")}})
	votes("[2 9]")
	r.Step(api.Msg{Kind: api.MApp, From: 0, To: 2, Term: 5, Index: 4, LogTerm: 2, Entries: []api.Entry{data(5, 5, "")}})
	votes("[0 1 2]")
}

func TestP1403MSnap(t *testing.T) {
	log := []api.Entry{data(1, 1, "a"), data(2, 1, "b"), data(3, 2, "c"), data(4, 2, "d")}
	for _, c := range []struct {
		what        string
		commit      int
		index, term int
		taken       bool
		rest        []api.Entry
		voters      string
	}{
		{"behind the log", 1, 9, 2, true, nil, "[0 2 5]"}, {"one behind the log", 1, 5, 2, true, nil, "[0 2 5]"}, {"at last", 1, 4, 2, true, nil, "[0 2 5]"}, {"at last, of another term", 1, 4, 3, true, nil, "[0 2 5]"}, {"within the log", 1, 3, 2, true, log[3:], "[0 2 5]"}, {"within the log, of another term", 1, 3, 1, true, nil, "[0 2 5]"}, {"one above commit", 1, 2, 1, true, log[2:], "[0 2 5]"},
		{"at commit", 2, 2, 1, false, log, "[0 1 2]"}, {"ahead of commit", 3, 2, 1, false, log, "[0 1 2]"}, {"at commit, of another term", 3, 3, 3, false, log, "[0 1 2]"},
	} {
		r := follower(t, c.commit)
		m := snap(c.index, c.term, "s")
		m.Seq = 8
		r.Step(m)
		commit := c.commit
		if c.taken {
			commit = c.index
		}
		x := sends(t, r, fmt.Sprintf("apped 2>0 t3 s8 m%d ok", commit))
		if x.HasSnap != c.taken || len(x.Entries)+len(x.Commit) > 0 || c.taken && (metaText(x.Meta) != fmt.Sprintf("%d/%d[0 2 5]", c.index, c.term) || metaText(r.Meta()) != metaText(x.Meta) || string(x.Data) != "s") {
			t.Errorf("%s: %s", c.what, readyText(x))
		}
		isLog(t, r, c.rest...)
		isHard(t, r, 3, -1, commit)
		isRole(t, r, raft.Follower, 0)
		if got := fmt.Sprint(r.Voters()); got != c.voters {
			t.Errorf("%s: %s vote", c.what, got)
		}
	}
	r := follower(t, 1)
	r.Step(app(4, 2, 0, voters(5, 3, 2, 9), data(6, 3, "x")))
	r.Step(snap(4, 2, "s")) // the log's last EVoters stays
	if fmt.Sprint(r.Voters()) != "[2 9]" {
		t.Errorf("%v vote", r.Voters())
	}
	r.Step(snap(5, 3, "s"))
	if fmt.Sprint(r.Voters()) != "[0 2 5]" {
		t.Errorf("%v vote", r.Voters())
	}
}
