package node_test

import (
	"fmt"
	"slices"
	"strings"
	"testing"

	"horologe/api"
	"horologe/disk"
	"horologe/machine"
	"horologe/node"
	"horologe/wal"
)

// follower is node 1 of 0, 1, 2, which follows 0 in the last one's term (or 1), and has these entries, so many of them committed: it was asked for all that came of that.
func follower(t *testing.T, commit int, list ...api.Entry) (*disk.Disk, *node.Node) {
	t.Helper()
	d := fresh(t)
	n := opened(t, d, 1, 0, 1, 2)
	term := 1
	if len(list) > 0 {
		term = list[len(list)-1].Term
	}
	step(t, n, app(0, term, 0, 0, commit, list...))
	all(n)
	return d, n
}

// deed is a call, and what its saving is to have behind it.
type deed struct {
	what string
	call func(n *node.Node)
	hard api.Hard
	list []api.Entry
	came came
}

// deeds are calls of a node 1 of 0, 1, 2 that has entries 1 to 3 of term 1, 2 of them committed.
func deeds() []deed {
	log := cmds(0, 1, 3)
	more := cmds(3, 2, 2)
	other := cmd(3, 2, put("z", "other"))
	return []deed{
		{"a vote", func(n *node.Node) {
			n.Step(api.Msg{Kind: api.MVote, From: 2, To: 1, Term: 5, Index: 3, LogTerm: 1})
		}, api.Hard{Term: 5, Vote: 2, Commit: 2}, log, came{out: []api.Msg{{Kind: api.MVoteReply, From: 1, To: 2, Term: 5, OK: true}}}},
		{"a vote that is refused", func(n *node.Node) {
			n.Step(api.Msg{Kind: api.MVote, From: 2, To: 1, Term: 5, Index: 2, LogTerm: 1})
		}, api.Hard{Term: 5, Vote: -1, Commit: 2}, log, came{out: []api.Msg{{Kind: api.MVoteReply, From: 1, To: 2, Term: 5}}}},
		{"entries", func(n *node.Node) { n.Step(app(2, 2, 3, 1, 2, more...)) },
			api.Hard{Term: 2, Vote: -1, Commit: 2}, slices.Concat(log, more), came{out: []api.Msg{{Kind: api.MAppReply, From: 1, To: 2, Term: 2, OK: true, Match: 5}}}},
		{"entries, and how far is committed", func(n *node.Node) { n.Step(app(2, 2, 3, 1, 4, more...)) },
			api.Hard{Term: 2, Vote: -1, Commit: 4}, slices.Concat(log, more), came{out: []api.Msg{{Kind: api.MAppReply, From: 1, To: 2, Term: 2, OK: true, Match: 5}}, done: slices.Concat(log[2:], more[:1])}},
		{"an entry in another's place", func(n *node.Node) { n.Step(app(2, 2, 2, 1, 3, other)) },
			api.Hard{Term: 2, Vote: -1, Commit: 3}, slices.Concat(log[:2], []api.Entry{other}), came{out: []api.Msg{{Kind: api.MAppReply, From: 1, To: 2, Term: 2, OK: true, Match: 3}}, done: []api.Entry{other}}},
		{"how far is committed", func(n *node.Node) { n.Step(app(0, 1, 3, 1, 3)) },
			api.Hard{Term: 1, Vote: -1, Commit: 3}, log, came{out: []api.Msg{{Kind: api.MAppReply, From: 1, To: 0, Term: 1, OK: true, Match: 3}}, done: log[2:]}},
		{"ticks", func(n *node.Node) {
			for range 10 {
				n.Tick(0)
			}
		}, api.Hard{Term: 2, Vote: 1, Commit: 2}, log, came{out: []api.Msg{{Kind: api.MVote, From: 1, To: 0, Term: 2, Index: 3, LogTerm: 1}, {Kind: api.MVote, From: 1, To: 2, Term: 2, Index: 3, LogTerm: 1}}}},
	}
}

func TestP1602WhatIsSavedIsSentAndDone(t *testing.T) {
	for _, c := range deeds() {
		d, n := follower(t, 2, cmds(0, 1, 3)...)
		c.call(n)
		isText(t, c.what, all(n).text(), c.came.text())
		isLog(t, c.what, d, api.Meta{}, c.list...)
		_, s, _ := wal.Open(d)
		if s.Hard != c.hard || n.Hard() != c.hard {
			t.Errorf("%s: %+v, saved %+v", c.what, n.Hard(), s.Hard)
		}
	}
}

// All is saved ahead of what is sent and done: where the disk stops within that, nothing is.
func TestP1602NothingIsSentAheadOfSaving(t *testing.T) {
	for _, c := range deeds() {
		for stop := 1; stop <= 2; stop++ {
			d, n := follower(t, 2, cmds(0, 1, 3)...)
			d.Stop(stop)
			c.call(n)
			isText(t, c.what, all(n).text(), came{}.text())
			isDead(t, c.what, n)
			isText(t, c.what, all(n).text(), came{}.text())
		}
		d, n := follower(t, 2, cmds(0, 1, 3)...)
		ops := d.Ops()
		c.call(n)
		if d.Ops() != ops+2 {
			t.Errorf("%s: %d operations: not one Save", c.what, d.Ops()-ops)
		}
	}
}

// Who saves nothing writes nothing, and needs no disk.
func TestP1602NothingToSave(t *testing.T) {
	d, n := follower(t, 2, cmds(0, 1, 3)...)
	ops := d.Ops()
	d.Stop(1)
	for _, call := range []func(){
		func() { is(t, "Tick", n.Tick(0), api.OK) },
		func() { step(t, n, app(0, 1, 3, 1, 2)) },
		func() { step(t, n, api.Msg{}) },
		func() { step(t, n, api.Msg{Kind: api.MVote, From: 2, To: 1, Term: 0}) },
		func() { is(t, "Read", n.Read(1), api.ErrLeader) },
	} {
		call()
		if n.Dead() || d.Ops() != ops {
			t.Fatal("it wrote")
		}
	}
	isText(t, "it answers", msgsText(n.Out()), msgsText([]api.Msg{{Kind: api.MAppReply, From: 1, To: 0, Term: 1, OK: true, Match: 3}, {Kind: api.MVoteReply, From: 1, To: 2, Term: 1}}))
}

func TestP1602ASnapshotThatComes(t *testing.T) {
	data := saved(put("a", "snap"), put("b", "snap"), api.Cmd{Kind: api.CClock, Time: 7})
	log := append(cmds(0, 1, 4), cmds(4, 2, 4)...)
	for _, c := range []struct {
		what string
		m    api.Meta
		stay []api.Entry
	}{
		{"within the log", meta(5, 2, 1, 2, 3), log[5:]},
		{"an entry of another term", meta(5, 1, 1, 2, 3), nil},
		{"the log's last", meta(8, 2, 1, 2, 3), nil},
		{"far behind", meta(999_999_999_999, 3, 1, 2, 3), nil},
		{"the first that is not committed", meta(3, 1, 1, 2, 3), log[3:]},
	} {
		d, n := follower(t, 2, log...)
		is(t, "it lives", n.Tick(0), api.OK)
		was := n.Store()
		step(t, n, snap(2, 3, c.m, data))
		isText(t, c.what, all(n).text(), came{out: []api.Msg{{Kind: api.MAppReply, From: 1, To: 2, Term: 3, OK: true, Match: c.m.Index}}}.text())
		want := fmt.Sprintf("dead false role 0 leader 2 hard {Term:3 Vote:-1 Commit:%d} voters [1 2 3] applied %[1]d clock 7 keys 2 0 [{Key:a Value:snap Create:1 Mod:1 Version:1 Lease:0} {Key:b Value:snap Create:2 Mod:2 Version:1 Lease:0}] save %q", c.m.Index, data)
		isText(t, c.what, shows(n), want)
		isSnapshot(t, c.what, d, c.m, data, c.stay...)
		if was.Rev() != 2 {
			t.Errorf("%s: the elder machine has changed", c.what)
		}
		again := opened(t, d, 1, 0)
		isText(t, c.what+", opened again", strings.Replace(shows(again), "leader -1", "leader 2", 1), want)
		isText(t, c.what+", opened again", all(again).text(), came{}.text())
	}
}

// The entries that stay behind a snapshot that came, and those that come then, are done upon its machine.
func TestP1602BehindASnapshotThatCame(t *testing.T) {
	log := []api.Entry{first(1, 1), cmd(2, 1, put("a", "1")), cmd(3, 1, put("a", "2")), cmd(4, 1, put("b", "3"))}
	d, n := follower(t, 1, log...)
	step(t, n, snap(0, 1, meta(3, 1, 0, 1, 2), saved(put("a", "1"), put("a", "2"))))
	all(n)
	step(t, n, app(0, 1, 4, 1, 5, cmd(5, 1, put("c", "4"))))
	isText(t, "behind it", entriesText(n.Done()), entriesText([]api.Entry{log[3], cmd(5, 1, put("c", "4"))}))
	isText(t, "behind it", kvs(n), "4 0 [{Key:a Value:2 Create:1 Mod:2 Version:2 Lease:0} {Key:b Value:3 Create:3 Mod:3 Version:1 Lease:0} {Key:c Value:4 Create:4 Mod:4 Version:1 Lease:0}]")
	isText(t, "opened again", shows(opened(t, d, 1, 0)), strings.Replace(shows(n), "leader 0", "leader -1", 1))
}

// A snapshot takes the elder one's place, also one of the node's own, and a spoilt one goes too.
func TestP1602ElderSnapshotsGo(t *testing.T) {
	d, n := follower(t, 20, cmds(0, 1, 20)...)
	isText(t, "its own", fmt.Sprint(shotNames(t, d)), "[shot-000000000020]")
	is(t, "Append", d.Append("shot-000000000999", []byte("spoilt")), api.OK)
	is(t, "Append", d.Append("shot.new", []byte("left")), api.OK)
	data := saved(put("a", "snap"))
	step(t, n, snap(0, 1, meta(30, 1, 0, 1), data))
	isSnapshot(t, "one that came", d, meta(30, 1, 0, 1), data)
}

// A snapshot of what is committed already is none.
func TestP1602ASnapshotThatTellsNothingNew(t *testing.T) {
	for _, index := range []int{1, 2, 3} {
		d, n := follower(t, 3, cmds(0, 1, 4)...)
		was, ops := shows(n), d.Ops()
		step(t, n, snap(0, 1, meta(index, 1, 5), saved(put("a", "other"))))
		isText(t, "it answers", all(n).text(), came{out: []api.Msg{{Kind: api.MAppReply, From: 1, To: 0, Term: 1, OK: true, Match: 3}}}.text())
		isText(t, "it shows", shows(n), was)
		if d.Ops() != ops {
			t.Error("it wrote")
		}
	}
}

// kinds are entries of each kind; what the commands among them make is kindsMake. The Data of the EVoters would be a command's, too, were it an EData's.
func kinds() []api.Entry {
	empty := first(1, 1)
	empty.Data = bytesOf(put("empty", "x"))
	evoters := voters(6, 1, 1, 5)
	if _, err := machine.ParseCmd(evoters.Data); err != api.OK {
		panic("the EVoters tells no command")
	}
	cut := bytesOf(put("cut", "x"))
	return []api.Entry{
		empty,
		cmd(2, 1, put("a", "1")),
		odd(3, 1, ""),
		odd(4, 1, string(cut[:len(cut)-1])),
		odd(5, 1, string(cut)+"x"),
		evoters,
		odd(7, 1, strings.Repeat("\x00", 16)+"\x07"),
		cmd(8, 1, api.Cmd{Kind: api.CClock, Time: 5}),
		cmd(9, 1, call(3, 1, "b", "2")),
		cmd(10, 1, call(3, 1, "b", "twice")),
		cmd(11, 1, api.Cmd{Kind: api.CRevoke, Lease: 9}),
		odd(12, 1, strings.Repeat("x", api.MaxRecord)),
	}
}

var kindsMake = []api.Cmd{put("a", "1"), {Kind: api.CClock, Time: 5}, call(3, 1, "b", "2")}

func TestP1602EntriesOfEachKind(t *testing.T) {
	list := kinds()
	for commit := range len(list) + 1 {
		_, n := follower(t, 0, list...)
		step(t, n, app(0, 1, len(list), 1, commit))
		c := all(n)
		isText(t, "done", entriesText(c.done), entriesText(list[:commit]))
		isText(t, "answers", answersText(c.answers), "[]")
		if n.Applied() != commit {
			t.Errorf("applied %d, not %d", n.Applied(), commit)
		}
	}
	d, n := follower(t, len(list), list...)
	isText(t, "the machine", fmt.Sprintf("%q", n.Save()), fmt.Sprintf("%q", saved(kindsMake...)))
	isText(t, "the voters", fmt.Sprint(n.Voters()), "[1 5]")
	isText(t, "opened again", fmt.Sprintf("%q", opened(t, d, 1, 0).Save()), fmt.Sprintf("%q", saved(kindsMake...)))
}

func TestP1602AnswersOfWhatItProposed(t *testing.T) {
	_, n := alone(t)
	list := []api.Cmd{
		put("a", "1"), call(3, 1, "b", "2"), call(3, 1, "b", "again"), {Kind: api.CRevoke, Lease: 5}, {Kind: api.CClock, Time: 9},
		{Kind: api.CTxn, Txn: api.Txn{If: []api.If{{Key: "a", N: 7}}, Else: []api.Op{{Kind: api.ORange, Key: "a", End: "c"}}}},
	}
	m := machine.New()
	var want []node.Answer
	for i, c := range list {
		index, term := proposes(t, n, c)
		if index != i+2 || term != 1 {
			t.Fatalf("Propose: %d, %d", index, term)
		}
		want = append(want, node.Answer{Index: index, Term: term, Reply: m.Apply(c)})
	}
	isText(t, "answers", answersText(n.Answers()), answersText(want))
	isText(t, "asked again", answersText(n.Answers()), "[]")
}

// What is proposed is answered once it is done, not ahead of that; all at once, if it is committed at once.
func TestP1602AnswersComeWithTheEntries(t *testing.T) {
	_, n := leader(t)
	proposes(t, n, put("a", "1"), put("b", "2"), put("c", "3"))
	isText(t, "ahead of it", answersText(n.Answers()), "[]")
	step(t, n, has(2, 1, 2))
	isText(t, "one", answersText(n.Answers()), answersText([]node.Answer{{2, 1, ok(1)}}))
	step(t, n, has(0, 1, 4))
	isText(t, "two", answersText(n.Answers()), answersText([]node.Answer{{3, 1, ok(2)}, {4, 1, ok(3)}}))
}

// ok is the Reply of a put that was done.
func ok(rev int) api.Reply { return api.Reply{Rev: rev, Then: true, Results: []api.Result{{}}} }

// turned is a node that led in the terms 1 and 3, and follows nobody in term 4: in term 1 it proposed a, b at the indexes 2, 3, in term 3 it proposed c at index 3. Nothing is committed.
func turned(t *testing.T) (*disk.Disk, *node.Node) {
	t.Helper()
	d := fresh(t)
	n := opened(t, d, 1, 0, 1, 2)
	stands(t, n)
	step(t, n, granted(0, 1))
	index, term := proposes(t, n, put("a", "a"), put("b", "b"))
	isText(t, "term 1", fmt.Sprint(index, term), "3 1")
	step(t, n, app(2, 2, 0, 0, 0, first(1, 2)))
	stands(t, n)
	step(t, n, granted(0, 3))
	index, term = proposes(t, n, put("c", "c"))
	isText(t, "term 3", fmt.Sprint(index, term), "3 3")
	step(t, n, api.Msg{Kind: api.MVoteReply, From: 2, To: 1, Term: 4})
	if c := all(n); len(c.done)+len(c.answers) > 0 {
		t.Fatal("something is done")
	}
	return d, n
}

// Which of those that were proposed, at one index in two terms, is committed, another leader says.
func TestP1602AnswersInTheirTerm(t *testing.T) {
	a, b, c := put("a", "a"), put("b", "b"), put("c", "c")
	for _, x := range []struct {
		what    string
		list    []api.Entry
		answers []node.Answer
	}{
		{"those of the first term", []api.Entry{first(1, 1), cmd(2, 1, a), cmd(3, 1, b), first(4, 5)}, []node.Answer{{2, 1, ok(1)}, {3, 1, ok(2)}}},
		{"that of the second term", []api.Entry{first(1, 2), first(2, 3), cmd(3, 3, c), first(4, 5)}, []node.Answer{{3, 3, ok(1)}}},
		{"one of the first, and another's", []api.Entry{first(1, 1), cmd(2, 1, a), cmd(3, 5, b)}, []node.Answer{{2, 1, ok(1)}}},
		{"others', at other places", []api.Entry{first(1, 1), cmd(2, 2, a), cmd(3, 2, b), cmd(4, 3, c)}, nil},
		{"others', with the same bytes", []api.Entry{first(1, 4), cmd(2, 4, a), cmd(3, 4, c)}, nil},
	} {
		_, n := turned(t)
		step(t, n, app(2, 5, 0, 0, len(x.list), x.list...))
		got := all(n)
		isText(t, x.what, answersText(got.answers), answersText(x.answers))
		isText(t, x.what, entriesText(got.done), entriesText(x.list))

		_, n = turned(t)
		for i, behind := 0, 0; i < len(x.list); i++ {
			step(t, n, app(2, 5, i, behind, i+1, x.list[i:]...))
			behind = x.list[i].Term
			for _, got := range n.Answers() {
				if len(x.answers) == 0 || got.Index != i+1 || answersText(x.answers[:1]) != answersText([]node.Answer{got}) {
					t.Fatalf("%s, one by one: %+v", x.what, got)
				}
				x.answers = x.answers[1:]
			}
		}
		if len(x.answers) > 0 {
			t.Errorf("%s, one by one: %+v lack", x.what, x.answers)
		}

		d, _ := turned(t)
		n = opened(t, d, 1, 0, 1, 2)
		step(t, n, app(2, 5, 0, 0, len(x.list), x.list...))
		got = all(n)
		isText(t, x.what+", opened again", answersText(got.answers), "[]")
		isText(t, x.what+", opened again", entriesText(got.done), entriesText(x.list))
	}
}

// What a snapshot that comes has in it is answered no more; what is proposed behind it is.
func TestP1602NoAnswersWithinASnapshot(t *testing.T) {
	_, n := turned(t)
	step(t, n, snap(2, 4, meta(2, 1, 0, 1, 2), saved(put("a", "a"))))
	step(t, n, app(2, 5, 2, 1, 4, cmd(3, 1, put("b", "b")), first(4, 5)))
	isText(t, "behind it", answersText(n.Answers()), answersText([]node.Answer{{3, 1, ok(2)}}))

	_, n = turned(t)
	step(t, n, snap(2, 4, meta(3, 1, 0, 1, 2), saved(put("a", "a"), put("b", "b"))))
	step(t, n, app(2, 5, 3, 1, 4, first(4, 5)))
	isText(t, "within it", answersText(n.Answers()), "[]")
}

func TestP1602ReadsWait(t *testing.T) {
	_, n := leader(t)
	for _, ctx := range []int{7, -1, 7, 0} {
		is(t, "Read", n.Read(ctx), api.OK)
		isText(t, "not confirmed", fmt.Sprint(n.Reads()), "[]")
	}
	heard := has(0, 1, 1)
	heard.Seq = 3
	step(t, n, heard)
	isText(t, "three rounds", fmt.Sprint(n.Reads()), "[7 -1 7]")
	proposes(t, n, put("a", "1"))
	is(t, "Read", n.Read(9), api.OK)
	heard.Seq, heard.Match = 5, 2
	step(t, n, heard)
	isText(t, "it is done", fmt.Sprintf("%d %v %s", n.Applied(), n.Reads(), kvs(n)), "2 [0 9] 1 0 [{Key:a Value:1 Create:1 Mod:1 Version:1 Lease:0}]")
	isText(t, "asked again", fmt.Sprint(n.Reads()), "[]")
	is(t, "Read", n.Read(10), api.OK)
	step(t, n, app(2, 2, 2, 1, 2))
	heard.Seq = 6
	step(t, n, heard)
	isText(t, "it leads no more", fmt.Sprint(n.Reads()), "[]")
}

func TestP1602ReadsOfOneThatIsAlone(t *testing.T) {
	_, n := alone(t)
	for ctx := range 200 {
		is(t, "Read", n.Read(ctx), api.OK)
		if ctx%3 == 0 {
			proposes(t, n, put("a", "b"))
		}
	}
	var want []int
	for ctx := range 200 {
		want = append(want, ctx)
	}
	isText(t, "reads", fmt.Sprint(n.Reads()), fmt.Sprint(want))
}
