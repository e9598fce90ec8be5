package node_test

import (
	"fmt"
	"math/rand"
	"slices"
	"strings"
	"testing"

	"horologe/api"
	"horologe/disk"
	"horologe/machine"
	"horologe/node"
	"horologe/raft"
	"horologe/wal"
)

// model is node 1 as plain as can be: what its disk holds it keeps as values, and what it proposed it never forgets.
type model struct {
	given   []int
	r       *raft.Raft
	m       *machine.Machine
	hard    api.Hard
	base    api.Meta // the log's
	log     []api.Entry
	shot    api.Meta
	data    []byte
	applied int
	mine    map[[2]int]bool
	waits   []raft.Read
	came    came
}

func newModel(t *testing.T, ids ...int) *model {
	x := &model{given: ids, hard: api.Hard{Vote: -1}}
	x.open(t)
	return x
}

// open lets it begin with what was saved.
func (x *model) open(t *testing.T) {
	t.Helper()
	x.m, x.mine, x.came = machine.New(), map[[2]int]bool{}, came{}
	if x.shot.Index > 0 {
		m, err := machine.Load(x.data)
		is(t, "machine.Load", err, api.OK)
		x.m = m
	}
	r, err := raft.New(1, x.given, x.hard, x.shot, x.data, x.log)
	is(t, "raft.New", err, api.OK)
	x.r, x.applied = r, x.shot.Index
	x.settle()
}

// cut lets the log begin behind a snapshot.
func (x *model) cut(m api.Meta, data []byte) {
	var stay []api.Entry
	for i, e := range x.log {
		if e.Index == m.Index && e.Term == m.Term {
			stay = slices.Clone(x.log[i+1:])
		}
	}
	x.base, x.log, x.shot, x.data = m, stay, m, data
}

func (x *model) votersAt(index int) []int {
	ids := x.base.Voters
	if x.base.Index == 0 {
		ids = x.given
	}
	for _, e := range x.log {
		if e.Kind == api.EVoters && e.Index <= index {
			ids = nil
			for at := 1; at < len(e.Data); at += 8 {
				ids = append(ids, int(e.Data[at+7]))
			}
		}
	}
	return ids
}

func (x *model) settle() {
	y := x.r.Ready()
	if y.HasSnap {
		x.cut(y.Meta, y.Data)
		x.m, _ = machine.Load(y.Data)
		x.applied = y.Meta.Index
	}
	if len(y.Entries) > 0 {
		keep := slices.IndexFunc(x.log, func(e api.Entry) bool { return e.Index >= y.Entries[0].Index })
		if keep >= 0 {
			x.log = x.log[:keep]
		}
		x.log = append(x.log, y.Entries...)
	}
	if y.HasHard {
		x.hard = y.Hard
	}
	x.came.out = append(x.came.out, y.Msgs...)
	term := 0
	for _, e := range y.Commit {
		x.applied, term = e.Index, e.Term
		x.came.done = append(x.came.done, e)
		c, err := machine.ParseCmd(e.Data)
		if e.Kind != api.EData || err != api.OK {
			continue
		}
		reply := x.m.Apply(c)
		if x.mine[[2]int{e.Index, e.Term}] {
			x.came.answers = append(x.came.answers, node.Answer{Index: e.Index, Term: e.Term, Reply: reply})
		}
	}
	x.waits = append(x.waits, y.Reads...)
	for _, w := range x.waits {
		if w.Index <= x.applied {
			x.came.reads = append(x.came.reads, w.Ctx)
		}
	}
	x.waits = slices.DeleteFunc(x.waits, func(w raft.Read) bool { return w.Index <= x.applied })
	if x.applied >= x.base.Index+20 {
		x.cut(api.Meta{Index: x.applied, Term: term, Voters: x.votersAt(x.applied)}, x.m.Save())
		x.r.Compact(x.applied, x.data)
	}
}

func (x *model) do(a act) string {
	text := a.do(x)
	x.settle()
	return text
}

func (x *model) Step(m api.Msg) api.Errno {
	if _, err := machine.Load(m.Data); m.Kind == api.MSnap && err != api.OK {
		return api.OK
	}
	x.r.Step(m)
	return api.OK
}

func (x *model) Tick(draw int) api.Errno {
	x.r.Tick(draw)
	return api.OK
}

func (x *model) Propose(c api.Cmd) (int, int, api.Errno) {
	b, err := machine.EncodeCmd(c)
	if err != api.OK {
		return 0, 0, err
	}
	index, term, err := x.r.Propose(b)
	if err == api.OK {
		x.mine[[2]int{index, term}] = true
	}
	return index, term, err
}

func (x *model) Change(ids ...int) api.Errno {
	_, err := x.r.Change(ids...)
	return err
}

func (x *model) Read(ctx int) api.Errno { return x.r.Read(ctx) }

func (x *model) shows() string {
	list, _, _ := x.m.Store().Range("\x00", "\xff", 0, 0)
	keys := fmt.Sprintf("%d %d %+v", x.m.Store().Rev(), x.m.Store().Compacted(), list)
	return fmt.Sprintf("dead false role %d leader %d hard %+v voters %v applied %d clock %d keys %s save %q", x.r.Role(), x.r.Leader(), x.r.Hard(), x.r.Voters(), x.applied, x.m.Clock(), keys, x.m.Save())
}

func (x *model) lies() string {
	return fmt.Sprintf("log %s\nsnapshot %s %q", stateText(wal.State{Hard: x.hard, Meta: x.base, Entries: x.log}), metaText(x.shot), x.data)
}

// caller is a node, or a model of one.
type caller interface {
	Step(m api.Msg) api.Errno
	Tick(draw int) api.Errno
	Propose(c api.Cmd) (int, int, api.Errno)
	Change(ids ...int) api.Errno
	Read(ctx int) api.Errno
}

// act is a call.
type act struct {
	kind string
	n    int
	msg  api.Msg
	cmd  api.Cmd
	ids  []int
}

func (a act) do(n caller) string {
	switch a.kind {
	case "tick":
		return fmt.Sprint(n.Tick(a.n))
	case "step":
		return fmt.Sprint(n.Step(a.msg))
	case "propose":
		return fmt.Sprint(n.Propose(a.cmd))
	case "change":
		return fmt.Sprint(n.Change(a.ids...))
	case "read":
		return fmt.Sprint(n.Read(a.n))
	}
	return ""
}

// drawn is node 1 of 0, 1, 2, and calls of it that are drawn.
type drawn struct {
	t     *testing.T
	r     *rand.Rand
	d     *disk.Disk
	n     *node.Node
	shots [][]byte
	eager bool // it is let lead, as soon as it stands
}

func newDrawn(t *testing.T, seed int64) *drawn {
	t.Helper()
	x := &drawn{t: t, r: rand.New(rand.NewSource(seed)), d: fresh(t)}
	x.n = opened(t, x.d, 1, 0, 1, 2)
	x.shots = [][]byte{saved(), saved(put("a", "s")), saved(put("a", "s"), call(1, 3, "b", "s"), api.Cmd{Kind: api.CClock, Time: 40}), []byte("no machine"), nil}
	return x
}

// call does one.
func (x *drawn) call() string { return x.draw().do(x.n) }

func (x *drawn) draw() act {
	if x.r.Intn(12) == 0 {
		x.eager = x.r.Intn(2) == 0
	}
	_, s, err := wal.Open(x.d)
	is(x.t, "wal.Open", err, api.OK)
	role := x.n.Role()
	switch k := x.r.Intn(20); {
	case role == raft.Candidate && x.eager:
		return act{kind: "step", msg: granted(x.peer(), x.n.Hard().Term)}
	case role == raft.Follower && x.eager && k < 14:
		return act{kind: "tick"}
	case role == raft.Leader && k < 8:
		return act{kind: "propose", cmd: x.cmd()}
	case role == raft.Leader && k < 12:
		m := has(x.peer(), x.n.Hard().Term, x.r.Intn(last(s)+3))
		m.Seq, m.OK = x.r.Intn(6), x.r.Intn(5) > 0
		return act{kind: "step", msg: m}
	case k < 14:
		return act{kind: "tick", n: x.r.Intn(30) - 5}
	case k == 14:
		return act{kind: "propose", cmd: x.cmd()}
	case k == 15:
		ids := [][]int{{0, 1}, {0, 1, 2}, {0, 1, 2, 3}, {1, 2}, {1}, nil, {0, 2}}
		return act{kind: "change", ids: ids[x.r.Intn(len(ids))]}
	case k == 16:
		return act{kind: "read", n: x.r.Intn(50)}
	case role == raft.Leader && x.r.Intn(3) > 0:
		return act{kind: "read", n: x.r.Intn(50)}
	}
	return act{kind: "step", msg: x.msg(s)}
}

func last(s wal.State) int { return s.Meta.Index + len(s.Entries) }

func termAt(s wal.State, index int) int {
	at := index - s.Meta.Index
	switch {
	case at == 0:
		return s.Meta.Term
	case at < 0 || at > len(s.Entries):
		return 0
	}
	return s.Entries[at-1].Term
}

func (x *drawn) peer() int { return x.r.Intn(2) * 2 }

func (x *drawn) cmd() api.Cmd {
	switch x.r.Intn(10) {
	case 0:
		return api.Cmd{Kind: api.CClock, Time: x.r.Intn(100)}
	case 1:
		return api.Cmd{Kind: x.r.Intn(12) - 2, Lease: x.r.Intn(3), TTL: x.r.Intn(9), Rev: x.r.Intn(20)}
	case 2:
		return txnOf(api.Op{Kind: api.ORange, Key: "a", End: "z"}, api.Op{Kind: api.OPut, Key: "a"})
	}
	return call(x.r.Intn(4), 1+x.r.Intn(40), string(rune('a'+x.r.Intn(6))), fmt.Sprint(x.r.Intn(1000)))
}

// msg is what another node may send, more or less.
func (x *drawn) msg(s wal.State) api.Msg {
	term := max(0, s.Hard.Term+[]int{0, 0, 0, 0, 0, 1, 2, -1}[x.r.Intn(8)])
	commit := s.Hard.Commit
	switch x.r.Intn(8) {
	case 0:
		return api.Msg{Kind: api.MVote, From: x.peer(), To: 1, Term: term, Index: last(s) + x.r.Intn(3) - 1, LogTerm: termAt(s, last(s))}
	case 1:
		m := meta(commit+x.r.Intn(last(s)-commit+6)-1, max(0, term-x.r.Intn(2)), [][]int{{0, 1}, {0, 1, 2}, {0, 1, 2, 3}, {1, 2}}[x.r.Intn(4)]...)
		if at := termAt(s, m.Index); at > 0 && x.r.Intn(4) > 0 {
			m.Term = at
		}
		return snap(x.peer(), term, m, x.shots[x.r.Intn(len(x.shots))])
	case 2:
		return api.Msg{Kind: x.r.Intn(7), From: x.r.Intn(4), To: x.r.Intn(3), Term: term, Match: x.r.Intn(5), OK: x.r.Intn(2) == 0}
	}
	index := commit + x.r.Intn(last(s)-commit+1)
	m := app(x.peer(), term, index, termAt(s, index), commit+x.r.Intn(30))
	at := m.LogTerm
	for range x.r.Intn(11) {
		index++
		if t := termAt(s, index); t > 0 && t >= at && t <= term && x.r.Intn(10) > 0 {
			at = t
		} else {
			at += x.r.Intn(max(1, term-at+1))
		}
		m.Entries = append(m.Entries, x.entry(index, at))
	}
	m.Seq = x.r.Intn(5)
	return m
}

func (x *drawn) entry(index, term int) api.Entry {
	switch x.r.Intn(12) {
	case 0:
		return first(index, term)
	case 1:
		return odd(index, term, strings.Repeat("x", x.r.Intn(30)))
	case 2:
		return voters(index, term, [][]int{{0, 1}, {0, 1, 2}, {0, 1, 2, 3}, {1, 2}}[x.r.Intn(4)]...)
	}
	return cmd(index, term, put(string(rune('a'+x.r.Intn(6))), fmt.Sprint(x.r.Intn(1000))))
}

func TestP1602DrawnCalls(t *testing.T) {
	t.Parallel()
	got := map[string]int{}
	for seed := range int64(250) {
		x := newDrawn(t, seed)
		m := newModel(t, 0, 1, 2)
		for i := range 200 {
			a := x.draw()
			what := fmt.Sprintf("seed %d, call %d: %s", seed, i, a.kind)
			text := a.do(x.n)
			isText(t, what, text, m.do(a))
			isText(t, what, shows(x.n), m.shows())
			isText(t, what, lies(t, x.d), m.lies())
			if x.r.Intn(10) == 0 {
				c := all(x.n)
				isText(t, what, c.text(), m.came.text())
				got["out"] += len(c.out)
				got["answers"] += len(c.answers)
				got["reads"] += len(c.reads)
				got["done"] += len(c.done)
				m.came = came{}
			}
			if x.r.Intn(60) == 0 {
				x.n = opened(t, x.d, 1, 0, 1, 2)
				m.open(t)
				isText(t, what+", opened again", shows(x.n), m.shows())
				isText(t, what+", opened again", lies(t, x.d), m.lies())
			}
			got[a.kind+" "+text[strings.LastIndex(text, " ")+1:]]++
			if m.shot.Index > 0 {
				got["snapshots"]++
			}
			if len(m.mine) > len(m.came.answers) {
				got["open"]++
			}
		}
	}
	for _, kind := range []string{"out", "answers", "reads", "done", "snapshots", "propose ok", "propose leader", "propose kind", "change ok", "change arg", "change busy", "read ok", "read ready"} {
		if got[kind] < 50 {
			t.Errorf("%s: %d", kind, got[kind])
		}
	}
	t.Log(got)
}
