package node_test

import (
	"fmt"
	"strings"
	"testing"

	"horologe/api"
	"horologe/node"
)

// ops are n operations, too many of which no command has.
func ops(n int) []api.Op {
	var list []api.Op
	for i := range n {
		list = append(list, api.Op{Kind: api.OPut, Key: fmt.Sprint(i)})
	}
	return list
}

func txnOf(list ...api.Op) api.Cmd { return api.Cmd{Kind: api.CTxn, Txn: api.Txn{Then: list}} }

// long is a command of so many bytes.
func longCmd(size int) api.Cmd {
	return put("a", strings.Repeat("v", size-len(bytesOf(put("a", "")))))
}

// waiting is a leader above whose commit 64 entries wait.
func waiting(t *testing.T) *node.Node {
	t.Helper()
	_, n := leader(t)
	proposes(t, n, puts(64)...)
	return n
}

func TestP1603ProposeErrors(t *testing.T) {
	none := api.Cmd{Kind: 7}
	many := txnOf(ops(256)...)
	arg := txnOf(api.Op{Kind: 256, Key: "a"})
	tooLong, longest := longCmd(api.MaxRecord+1), longCmd(api.MaxRecord)
	_, led := leader(t)
	_, follows := follower(t, 1, cmds(0, 1, 2)...)
	_, one := alone(t)
	stood := opened(t, fresh(t), 1, 0, 1, 2)
	stands(t, stood)
	full := waiting(t)
	for _, c := range []struct {
		what string
		n    *node.Node
		cmd  api.Cmd
		want api.Errno
	}{
		{"no kind", led, none, api.ErrKind},
		{"no kind, and a list that is too long", led, api.Cmd{Kind: -1, Txn: many.Txn}, api.ErrKind},
		{"many operations", led, many, api.ErrMany},
		{"no kind of an operation", led, arg, api.ErrArg},
		{"it is too long", led, tooLong, api.ErrLong},
		{"it is too long, alone", one, tooLong, api.ErrLong},
		{"no leader", follows, put("a", "b"), api.ErrLeader},
		{"no leader, no kind", follows, none, api.ErrKind},
		{"no leader, many operations", follows, many, api.ErrMany},
		{"no leader, no kind of an operation", follows, arg, api.ErrArg},
		{"no leader, too long", follows, tooLong, api.ErrLeader},
		{"a candidate", stood, put("a", "b"), api.ErrLeader},
		{"a candidate, no kind", stood, none, api.ErrKind},
		{"64 wait", full, put("a", "b"), api.ErrFull},
		{"64 wait, the longest", full, longest, api.ErrFull},
		{"64 wait, too long", full, tooLong, api.ErrLong},
		{"64 wait, no kind", full, none, api.ErrKind},
	} {
		all(c.n)
		was := shows(c.n)
		index, term, err := c.n.Propose(c.cmd)
		isText(t, c.what, fmt.Sprint(index, term, err), fmt.Sprint(0, 0, c.want))
		isText(t, c.what+": P5", shows(c.n), was)
		isText(t, c.what+": P5", all(c.n).text(), came{}.text())
	}
	isText(t, "one more", fmt.Sprint(led.Propose(longest)), "2 1 ok")
	isText(t, "one more", fmt.Sprint(one.Propose(longest)), "2 1 ok")
	if l := one.Answers(); len(l) != 1 || l[0].Reply.Err != api.ErrLong {
		t.Errorf("what the machine refuses is answered: %+v", l)
	}
	step(t, full, has(0, 1, 2))
	isText(t, "there is room for one", fmt.Sprint(full.Propose(put("a", "b"))), "66 1 ok")
	is(t, "no more room", third(full.Propose(put("a", "b"))), api.ErrFull)
}

// Index and Term are the entry's, also in a later term, and behind a snapshot.
func TestP1603ProposeTellsThePlace(t *testing.T) {
	d, n := alone(t)
	for want := 2; want <= 45; want++ {
		isText(t, "Propose", fmt.Sprint(n.Propose(put("a", "b"))), fmt.Sprint(want, 1, api.OK))
	}
	n = opened(t, d, 0, 0)
	leads(t, n)
	all(n)
	for want := 47; want <= 90; want++ {
		isText(t, "Propose", fmt.Sprint(n.Propose(put("a", "b"))), fmt.Sprint(want, 2, api.OK))
		l := n.Answers()
		if len(l) != 1 || l[0].Index != want || l[0].Term != 2 {
			t.Fatalf("answered: %+v", l)
		}
	}
}

// What a leader sends behind a call is there at once.
func TestP1603WhatIsSent(t *testing.T) {
	_, n := leader(t)
	to := func(id int, m api.Msg) api.Msg {
		m.Kind, m.From, m.To, m.Term = api.MApp, 1, id, 1
		return m
	}
	sends := func(what string, list ...api.Msg) {
		t.Helper()
		isText(t, what, msgsText(n.Out()), msgsText(list))
		isText(t, what+", asked again", msgsText(n.Out()), "")
	}
	e := cmd(2, 1, put("a", "b"))
	proposes(t, n, put("a", "b"))
	m := api.Msg{Index: 1, LogTerm: 1, Commit: 1, Entries: []api.Entry{e}}
	m2 := api.Msg{Index: 0, LogTerm: 0, Commit: 1, Entries: []api.Entry{first(1, 1), e}}
	sends("Propose", to(0, m), to(2, m2))
	is(t, "Read", n.Read(5), api.OK)
	m.Seq, m2.Seq = 1, 1
	sends("Read", to(0, m), to(2, m2))
	for range 3 {
		is(t, "Tick", n.Tick(0), api.OK)
	}
	sends("ticks", to(0, m), to(2, m2))
	is(t, "Change", n.Change(0, 1), api.OK)
	m.Entries = append(m.Entries, voters(3, 1, 0, 1))
	sends("Change", to(0, m))
	isText(t, "the voters", fmt.Sprint(n.Voters()), "[0 1]")
	step(t, n, api.Msg{Kind: api.MAppReply, From: 0, To: 1, Term: 1, OK: true, Match: 3})
	sends("Step", to(0, api.Msg{Index: 3, LogTerm: 1, Commit: 3, Seq: 1}))
}

func TestP1603ChangeErrors(t *testing.T) {
	_, follows := follower(t, 1, cmds(0, 1, 2)...)
	is(t, "no leader", follows.Change(0, 1), api.ErrLeader)
	is(t, "no leader, no voters", follows.Change(), api.ErrLeader)
	_, n := leader(t)
	for _, ids := range [][]int{nil, {0, 1, 2}, {0}, {0, 1, 2, 3, 4}, {1, 0}, {-1, 0, 1, 2}, {0, 1, 2, 1 << 30}} {
		was := shows(n)
		is(t, "no voters", n.Change(ids...), api.ErrArg)
		isText(t, "P5", shows(n)+all(n).text(), was+came{}.text())
	}
	is(t, "one more", n.Change(0, 1, 2, 3), api.OK)
	is(t, "it is under way", n.Change(0, 1, 2), api.ErrBusy)
	step(t, n, has(0, 1, 2))
	step(t, n, has(2, 1, 2))
	is(t, "one less", n.Change(1, 2, 3), api.OK)
	isText(t, "the voters", fmt.Sprint(n.Voters()), "[1 2 3]")
	isText(t, "one was done", entriesText(n.Done()), entriesText([]api.Entry{voters(2, 1, 0, 1, 2, 3)}))
	d := fresh(t)
	n = opened(t, d, 1, 0, 1, 2)
	stands(t, n)
	step(t, n, granted(0, 1))
	is(t, "no entry of its term is committed", n.Change(0, 1), api.ErrBusy)
}

// A leader that voted itself out follows nobody, and what waits then waits on.
func TestP1603ALeaderGoes(t *testing.T) {
	_, n := leader(t)
	is(t, "Change", n.Change(0, 2), api.OK)
	step(t, n, has(0, 1, 2))
	step(t, n, has(2, 1, 2))
	isText(t, "it leads no more", fmt.Sprint(n.Role(), n.Leader(), n.Voters()), "0 -1 [0 2]")
	is(t, "Propose", third(n.Propose(put("a", "b"))), api.ErrLeader)
}

func TestP1603ReadErrors(t *testing.T) {
	_, follows := follower(t, 1, cmds(0, 1, 2)...)
	is(t, "no leader", follows.Read(1), api.ErrLeader)
	n := opened(t, fresh(t), 1, 0, 1, 2)
	stands(t, n)
	is(t, "a candidate", n.Read(1), api.ErrLeader)
	step(t, n, granted(0, 1))
	is(t, "nothing is committed", n.Read(1), api.ErrReady)
	step(t, n, has(0, 1, 1))
	for i := range 64 {
		is(t, "Read", n.Read(i), api.OK)
	}
	all(n)
	is(t, "64 wait", n.Read(64), api.ErrMany)
	isText(t, "P5", all(n).text(), came{}.text())
	heard := has(2, 1, 1)
	heard.Seq = 64
	step(t, n, heard)
	if l := n.Reads(); len(l) != 64 || l[0] != 0 || l[63] != 63 {
		t.Errorf("reads: %v", l)
	}
	is(t, "there is room", n.Read(64), api.OK)
}

// A snapshot that no machine made is passed over, as though it had not come: its term is not heard of, nobody is answered.
func TestP1603SpoiltSnapshots(t *testing.T) {
	data := saved(put("a", "b"), put("c", "d"))
	for i := range len(data) + 2 {
		bad := append([]byte(nil), data...)
		switch {
		case i < len(data):
			bad[i] ^= 1
		case i == len(data):
			bad = bad[:i-1]
		default:
			bad = append(bad, 0)
		}
		d, n := follower(t, 1, cmds(0, 1, 3)...)
		was, ops := shows(n), d.Ops()
		step(t, n, snap(2, 9, meta(7, 2, 0, 1, 2), bad))
		step(t, n, snap(2, 1, meta(1, 1, 0, 1, 2), bad))
		step(t, n, snap(2, 0, meta(7, 0, 0, 1, 2), bad))
		isText(t, "it shows", shows(n), was)
		isText(t, "it tells", all(n).text(), came{}.text())
		if d.Ops() != ops {
			t.Fatal("it wrote")
		}
	}
	_, n := follower(t, 1, cmds(0, 1, 3)...)
	was := shows(n)
	step(t, n, snap(2, 9, meta(7, 2, 0, 1, 2), nil))
	isText(t, "no data", shows(n), was)
	step(t, n, snap(2, 9, meta(7, 2), data)) // raft passes it over
	isText(t, "no voters", shows(n), was)
	isText(t, "it tells", all(n).text(), came{}.text())
	m := app(2, 2, 3, 1, 2)
	m.Data = []byte("no machine")
	step(t, n, m)
	if n.Hard().Term != 2 || n.Applied() != 2 {
		t.Error("the Data of another kind counts")
	}
	_, led := leader(t)
	step(t, led, snap(2, 9, meta(7, 2, 0, 1, 2), []byte("no machine")))
	isText(t, "a leader", fmt.Sprint(led.Role(), led.Hard().Term), "2 1")
}

// What is not to this node, or may not be, is passed over.
func TestP1603StepPassesOver(t *testing.T) {
	d, n := follower(t, 1, cmds(0, 1, 3)...)
	was, ops := shows(n), d.Ops()
	for _, m := range []api.Msg{
		{}, {Kind: api.MApp, From: 0, To: 2, Term: 9}, {Kind: 6, From: 0, To: 1, Term: 9}, {Kind: api.MVote, From: 1, To: 1, Term: 9}, {Kind: api.MVote, From: -1, To: 1, Term: 9},
		{Kind: api.MVote, From: 0, To: 1, Term: -1}, app(0, 9, 3, 1, 9, cmds(4, 1, 1)...), app(0, 9, 3, 1, 9, api.Entry{Index: 4, Term: 1, Kind: 3}),
		snap(0, 9, meta(0, 1, 0), saved()), snap(0, 9, meta(5, 10, 0), saved()),
	} {
		step(t, n, m)
		isText(t, msgText(m), shows(n)+all(n).text(), was+came{}.text())
	}
	if d.Ops() != ops {
		t.Error("it wrote")
	}
}

// Each is told once, all in the order in which it came; asking for one does not touch the others.
func TestP1603ToldOnce(t *testing.T) {
	_, n := leader(t)
	var out []api.Msg
	var entries []api.Entry
	for i := range 6 {
		index, _ := proposes(t, n, put("a", fmt.Sprint(i)))
		entries = append(entries, cmd(index, 1, put("a", fmt.Sprint(i))))
		is(t, "Read", n.Read(i), api.OK)
		heard := has(0, 1, index)
		heard.Seq = i + 1
		step(t, n, heard)
	}
	for i := range 4 {
		parts := []func() string{
			func() string { return fmt.Sprint(n.Reads()) },
			func() string { return entriesText(n.Done()) },
			func() string { l := n.Answers(); return fmt.Sprint(len(l), l[:min(1, len(l))]) },
			func() string { l := n.Out(); out = append(out, l...); return fmt.Sprint(len(l) > 0) },
		}
		wants := []string{"[0 1 2 3 4 5]", entriesText(entries), fmt.Sprint(6, []node.Answer{{2, 1, ok(1)}}), "true"}
		if i > 0 {
			wants = []string{"[]", "", "0 []", "false"}
		}
		for j := range parts {
			at := (i + j) % 4
			isText(t, "told", parts[at](), wants[at])
		}
	}
	last := -1
	for _, m := range out {
		if m.To != 0 {
			continue
		}
		if m.Index+len(m.Entries) < last {
			t.Fatalf("out of order: %s", msgsText(out))
		}
		last = m.Index + len(m.Entries)
	}
}

// The example: one voter, ten ticks, Propose: the Answer is there at once.
func TestP1603TheExample(t *testing.T) {
	n := opened(t, fresh(t), 0, 0)
	for i := range 10 {
		is(t, "Tick", n.Tick(0), api.OK)
		isText(t, "it leads", fmt.Sprint(n.Role() == 2), fmt.Sprint(i == 9))
	}
	isText(t, "Propose", fmt.Sprint(n.Propose(put("a", "b"))), "2 1 ok")
	isText(t, "the Answer", answersText(n.Answers()), answersText([]node.Answer{{2, 1, ok(1)}}))
}

// A draw says how patient a node is.
func TestP1603Draws(t *testing.T) {
	for draw, want := range map[int]int{0: 10, 9: 19, 10: 10, -1: 19, 13: 13} {
		n := opened(t, fresh(t), 1, 0, 1, 2)
		step(t, n, app(0, 1, 0, 0, 0))
		is(t, "Tick", n.Tick(draw), api.OK)
		step(t, n, app(0, 1, 0, 0, 0))
		ticks := 0
		for n.Role() == 0 {
			is(t, "Tick", n.Tick(draw), api.OK)
			ticks++
		}
		if ticks != want {
			t.Errorf("draw %d: %d ticks, not %d", draw, ticks, want)
		}
	}
}
