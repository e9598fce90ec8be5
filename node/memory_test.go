package node_test

import (
	"fmt"
	"math"
	"math/rand"
	"testing"

	"horologe/api"
	"horologe/node"
)

// roomy is a list with spare room, in which something lies.
func roomy[T any](list []T, spare T) []T {
	l := append(make([]T, 0, len(list)+3), list...)
	for i := range 3 {
		l[:cap(l)][len(l)+i] = spare
	}
	return l
}

// spoil changes all of a list, its spare room too.
func spoil[T any](list []T, by T) {
	for i := range list[:cap(list)] {
		list[:cap(list)][i] = by
	}
}

func spoilEntries(list []api.Entry) {
	for _, e := range list {
		spoil(e.Data, 0xee)
	}
	spoil(list, api.Entry{Index: -9, Data: []byte("spoilt")})
}

func spoilMsgs(list []api.Msg) {
	for _, m := range list {
		spoilEntries(m.Entries)
		spoil(m.Meta.Voters, -9)
		spoil(m.Data, 0xee)
	}
	spoil(list, api.Msg{Kind: -9})
}

func spoilAnswers(list []node.Answer) {
	for _, a := range list {
		for _, r := range a.Reply.Results {
			spoil(r.KVs, api.KV{Key: "spoilt"})
		}
		spoil(a.Reply.Results, api.Result{N: -9})
	}
	spoil(list, node.Answer{Index: -9})
}

// rangeCmd is a transaction of which each list has spare room.
func rangeCmd(key string) api.Cmd {
	return api.Cmd{Client: 2, Seq: len(key), Kind: api.CTxn, Txn: api.Txn{
		If:   roomy([]api.If{{Key: key}}, api.If{Key: "spare"}),
		Then: roomy([]api.Op{{Kind: api.OPut, Key: key, Value: "v"}, {Kind: api.ORange, Key: "a", End: "z"}}, api.Op{Key: "spare"}),
		Else: roomy([]api.Op{{Kind: api.ORange, Key: "a", End: "z"}}, api.Op{Key: "spare"}),
	}}
}

// What is handed in is not changed, and not kept: it is spoilt behind the call.
func TestP2WhatIsHandedIn(t *testing.T) {
	ids := roomy([]int{0, 1, 2}, 77)
	d := fresh(t)
	n, err := node.Open(d, 1, ids)
	is(t, "Open", err, api.OK)
	plain := opened(t, fresh(t), 1, 0, 1, 2)
	same := func(what string) {
		t.Helper()
		isText(t, what, shows(n), shows(plain))
		isText(t, what, all(n).text(), all(plain).text())
	}
	unlike := func(what string, got, want []int) {
		t.Helper()
		isText(t, what, fmt.Sprint(got, got[:cap(got)]), fmt.Sprint(want, append(want, 77, 77, 77)))
	}
	unlike("Open's voters", ids, []int{0, 1, 2})
	spoil(ids, 9)
	same("Open")
	for _, m := range []api.Msg{
		app(0, 1, 0, 0, 1, cmds(0, 1, 3)...),
		snap(0, 1, meta(7, 1, 0, 1, 2), saved(rangeCmd("a"), rangeCmd("bb"))),
		app(0, 1, 7, 1, 9, cmd(8, 1, rangeCmd("ccc")), voters(9, 1, 0, 1, 2, 3)),
	} {
		step(t, plain, m)
		mine := m
		mine.Entries = nil
		for _, e := range m.Entries {
			e.Data = roomy(e.Data, 0x77)
			mine.Entries = append(mine.Entries, e)
		}
		mine.Entries = roomy(mine.Entries, api.Entry{Index: 77})
		mine.Data = roomy(m.Data, 0x77)
		mine.Meta.Voters = roomy(m.Meta.Voters, 77)
		step(t, n, mine)
		isText(t, "Step's message", msgText(mine), msgText(m))
		if len(mine.Entries[:cap(mine.Entries)]) < 3 || mine.Entries[:cap(mine.Entries)][len(mine.Entries)].Index != 77 || mine.Data[:cap(mine.Data)][len(mine.Data)] != 0x77 {
			t.Error("its spare room")
		}
		unlike("its voters", mine.Meta.Voters, m.Meta.Voters[:len(m.Meta.Voters):len(m.Meta.Voters)])
		spoilMsgs([]api.Msg{mine})
		same("Step")
	}
	for _, x := range []*node.Node{n, plain} {
		stands(t, x)
		step(t, x, granted(0, 2))
		step(t, x, granted(2, 2))
		step(t, x, has(0, 2, 10))
		step(t, x, has(2, 2, 10))
	}
	same("it leads")
	c, twin := rangeCmd("dddd"), rangeCmd("dddd")
	proposes(t, plain, twin)
	proposes(t, n, c)
	isText(t, "Propose's command", fmt.Sprintf("%+v %+v %+v", c, c.Txn.Then[:5], c.Txn.If[:4]), fmt.Sprintf("%+v %+v %+v", twin, twin.Txn.Then[:5], twin.Txn.If[:4]))
	spoil(c.Txn.If, api.If{Key: "spoilt"})
	spoil(c.Txn.Then, api.Op{Key: "spoilt"})
	spoil(c.Txn.Else, api.Op{Key: "spoilt"})
	ids = roomy([]int{0, 1, 2}, 77)
	is(t, "Change", plain.Change(0, 1, 2), api.OK)
	is(t, "Change", n.Change(ids...), api.OK)
	unlike("Change's voters", ids, []int{0, 1, 2})
	spoil(ids, 9)
	same("Propose and Change")
	for _, x := range []*node.Node{n, plain} {
		step(t, x, has(0, 2, 12))
	}
	same("they are done")
}

// What is answered is the caller's own: it is spoilt, and the node is as a twin whose answers were not.
func TestP2AnswersAreTheCallersOwn(t *testing.T) {
	for seed := range int64(60) {
		a, b := newDrawn(t, seed), newDrawn(t, seed)
		for range 150 {
			isText(t, "the call", a.call(), b.call())
			isText(t, "the node", shows(a.n), shows(b.n))
			x, y := all(a.n), all(b.n)
			isText(t, "what came", x.text(), y.text())
			spoilMsgs(x.out)
			spoilAnswers(x.answers)
			spoil(x.reads, -9)
			spoilEntries(x.done)
			spoil(a.n.Voters(), -9)
			spoil(a.n.Save(), 0xee)
		}
		isText(t, "the disk", files(t, a.d), files(t, b.d))
		isText(t, "opened again", shows(opened(t, a.d, 1, 1)), shows(opened(t, b.d, 1, 1)))
	}
}

// No two lists of one answer share memory: one is spoilt, and the others are as they were.
func TestP2ListsOfOneAnswer(t *testing.T) {
	make := func() (came, *node.Node) {
		_, n := leader(t)
		list := []api.Cmd{rangeCmd("a"), rangeCmd("bb"), rangeCmd("ccc"), rangeCmd("ccc"), put("z", "z")}
		proposes(t, n, list...)
		is(t, "Change", n.Change(0, 1, 2, 3), api.OK)
		step(t, n, has(0, 1, 7))
		step(t, n, has(2, 1, 7))
		return all(n), n
	}
	want, _ := make()
	for i := range want.out {
		got, _ := make()
		spoilMsgs(got.out[i : i+1 : i+1])
		got.out[i] = want.out[i]
		isText(t, "a message", got.text(), want.text())
	}
	for i := range want.answers {
		got, _ := make()
		spoilAnswers(got.answers[i : i+1 : i+1])
		got.answers[i] = want.answers[i]
		isText(t, "an answer", got.text(), want.text())
	}
	for i := range want.done {
		got, _ := make()
		spoilEntries(got.done[i : i+1 : i+1])
		got.done[i] = want.done[i]
		isText(t, "an entry", got.text(), want.text())
	}
}

func TestP3TheSameCallsAnswerTheSame(t *testing.T) {
	for seed := range int64(30) {
		a, b := newDrawn(t, seed), newDrawn(t, seed)
		for range 200 {
			isText(t, "the call", a.call(), b.call())
			isText(t, "the node", shows(a.n)+all(a.n).text(), shows(b.n)+all(b.n).text())
		}
		isText(t, "the disk", files(t, a.d), files(t, b.d))
	}
}

// Nodes have nothing in common: those whose calls are mixed with others' are as those that are alone.
func TestP7NodesHaveNothingInCommon(t *testing.T) {
	var mixed, single []string
	var list []*drawn
	for seed := range int64(8) {
		list = append(list, newDrawn(t, seed))
	}
	for range 200 {
		for _, x := range list {
			x.call()
		}
	}
	for seed, x := range list {
		mixed = append(mixed, shows(x.n)+all(x.n).text()+files(t, x.d))
		y := newDrawn(t, int64(seed))
		for range 200 {
			y.call()
		}
		single = append(single, shows(y.n)+all(y.n).text()+files(t, y.d))
	}
	for i := range mixed {
		isText(t, "a node", mixed[i], single[i])
	}
}

// oddNumber is one that no call of the others would draw.
func oddNumber(r *rand.Rand) int {
	list := []int{math.MinInt, math.MaxInt, -1, 0, 1, 2, 1 << 62, 1<<62 + 1, -1 << 62, 1 << 30, 999_999_999_999, 3, 4, 5}
	return list[r.Intn(len(list))]
}

func oddEntries(r *rand.Rand) []api.Entry {
	var list []api.Entry
	index := oddNumber(r)
	for range r.Intn(4) {
		index++
		list = append(list, api.Entry{Index: index, Term: oddNumber(r), Kind: r.Intn(5) - 1, Data: []byte{2, 0, 0}[:r.Intn(4)]})
	}
	return list
}

func oddIds(r *rand.Rand) []int {
	var list []int
	for range r.Intn(9) {
		list = append(list, oddNumber(r))
	}
	return list
}

func oddCmd(r *rand.Rand) api.Cmd {
	c := api.Cmd{Client: oddNumber(r), Seq: oddNumber(r), Kind: r.Intn(9) - 1, Lease: oddNumber(r), TTL: oddNumber(r), Time: oddNumber(r), Rev: oddNumber(r)}
	for range r.Intn(3) {
		c.Txn.If = append(c.Txn.If, api.If{Key: "a", Target: oddNumber(r), Sign: r.Intn(6) - 1, N: oddNumber(r)})
		c.Txn.Then = append(c.Txn.Then, api.Op{Kind: r.Intn(5) - 1, Key: "a", End: "b", Lease: oddNumber(r), Limit: oddNumber(r)})
	}
	return c
}

// Whatever plain data a node is given, its calls end, and it shows what may be.
func TestP1WhateverIsHandedIn(t *testing.T) {
	r := rand.New(rand.NewSource(1))
	for range 400 {
		d := fresh(t)
		if n, err := node.Open(d, oddNumber(r), oddIds(r)); (n == nil) != (err != api.OK) {
			t.Fatal(err)
		}
		ids := []int{0, 1, 2}
		if r.Intn(2) == 0 {
			ids = []int{1}
		}
		n := opened(t, d, 1, ids...)
		if len(ids) == 1 {
			leads(t, n)
		}
		for range 60 {
			switch r.Intn(6) {
			case 0:
				n.Tick(oddNumber(r))
			case 1:
				n.Propose(oddCmd(r))
			case 2:
				n.Change(oddIds(r)...)
			case 3:
				n.Read(oddNumber(r))
			default:
				data := [][]byte{nil, []byte("x"), saved(put("a", "b"))}[r.Intn(3)]
				n.Step(api.Msg{Kind: r.Intn(8) - 1, From: r.Intn(4) - 1, To: r.Intn(2), Term: oddNumber(r), Index: oddNumber(r), LogTerm: oddNumber(r), Entries: oddEntries(r), Commit: oddNumber(r), Seq: oddNumber(r), OK: r.Intn(2) == 0, Match: oddNumber(r), Meta: api.Meta{Index: oddNumber(r), Term: oddNumber(r), Voters: oddIds(r)}, Data: data})
			}
			if n.Dead() {
				t.Fatal("it died")
			}
		}
		c := all(n)
		for i, e := range c.done {
			if i > 0 && e.Index <= c.done[i-1].Index {
				t.Fatalf("done out of order: %s", entriesText(c.done))
			}
		}
		if n.Hard().Term > 1<<62-1 { // beyond the limits: a term that no node comes back with
			continue
		}
		again := opened(t, d, 1, ids...)
		isText(t, "opened again", fmt.Sprint(again.Hard(), again.Applied(), again.Voters(), kvs(again)), fmt.Sprint(n.Hard(), n.Applied(), n.Voters(), kvs(n)))
	}
}
