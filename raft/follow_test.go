package raft_test

import (
	"fmt"
	"math/rand"
	"slices"
	"testing"

	"horologe/api"
	"horologe/raft"
)

// disk is what a node has saved.
type disk struct {
	hard api.Hard
	meta api.Meta
	data []byte
	log  []api.Entry
}

// keepSnap saves a snapshot as a log on a disk does: what is behind it stays, if its last entry is there.
func (d *disk) keepSnap(m api.Meta, data []byte) {
	var rest []api.Entry
	for i, e := range d.log {
		if e.Index == m.Index && e.Term == m.Term {
			rest = slices.Clone(d.log[i+1:])
		}
	}
	d.meta, d.data, d.log = m, data, rest
}

func (d *disk) keep(e api.Entry) {
	d.log = append(slices.Clone(d.log[:e.Index-d.meta.Index-1]), e)
}

// group is nodes, what they saved, and all that is on its way; it holds all of them against what must never be.
type group struct {
	*rand.Rand
	t       *testing.T
	nodes   []*raft.Raft
	disks   []disk
	first   []int // the voters at the beginning
	net     []api.Msg
	done    []api.Entry // what was committed by anybody, from 1 on
	applied []int
	leaders map[int]int // by terms
	asked   map[int]int // of each read how far was committed by anybody when it was asked
	reads   int
	changes int
	shots   int
}

func newGroup(t *testing.T, d *rand.Rand, size, voters int) *group {
	g := &group{Rand: d, t: t, nodes: make([]*raft.Raft, size), disks: make([]disk, size), applied: make([]int, size), leaders: map[int]int{}, asked: map[int]int{}}
	for id := range voters {
		g.first = append(g.first, id)
	}
	for id := range size {
		g.disks[id].hard.Vote = -1
		g.back(id)
	}
	return g
}

// back lets a node come back with what it saved; all else is forgotten.
func (g *group) back(id int) {
	g.t.Helper()
	d := g.disks[id]
	r, err := raft.New(id, g.first, d.hard, d.meta, d.data, d.log)
	if err != api.OK {
		g.t.Fatalf("node %d does not come back: %v: %+v", id, err, d)
	}
	g.nodes[id], g.applied[id] = r, d.meta.Index
	g.look(id)
}

// settle saves, sends and does what a node tells. A crash leaves so many of its steps done: the snapshot, each entry, the hard state, each message.
func (g *group) settle(id, steps int) {
	g.t.Helper()
	x := g.nodes[id].Ready()
	d := &g.disks[id]
	goesOn := func() bool { steps--; return steps >= 0 }
	if x.HasSnap {
		if !goesOn() {
			g.back(id)
			return
		}
		d.keepSnap(x.Meta, x.Data)
	}
	for _, e := range x.Entries {
		if !goesOn() {
			g.back(id)
			return
		}
		d.keep(e)
	}
	if x.HasHard {
		if !goesOn() {
			g.back(id)
			return
		}
		g.votesOnce(id, d.hard, x.Hard)
		d.hard = x.Hard
	}
	for _, m := range x.Msgs {
		if !goesOn() {
			g.back(id)
			return
		}
		g.net = append(g.net, m)
	}
	if x.HasSnap {
		g.applied[id] = x.Meta.Index
	}
	g.commit(id, x.Commit)
	g.confirm(x.Reads)
	g.look(id)
}

// votesOnce holds what a node saves against what it saved before: it must not vote twice in a term, nor go back.
func (g *group) votesOnce(id int, was, is api.Hard) {
	if is.Term < was.Term || is.Commit < was.Commit || is.Term == was.Term && was.Vote >= 0 && is.Vote != was.Vote {
		g.t.Fatalf("node %d: %+v behind %+v", id, is, was)
	}
}

func (g *group) commit(id int, list []api.Entry) {
	g.t.Helper()
	for _, e := range list {
		if e.Index != g.applied[id]+1 {
			g.t.Fatalf("node %d does %d behind %d", id, e.Index, g.applied[id])
		}
		g.applied[id]++
		if e.Index > len(g.done) {
			g.done = append(g.done, e)
			if e.Kind == api.EVoters {
				g.changes++
			}
		}
		if entryText(g.done[e.Index-1]) != entryText(e) {
			g.t.Fatalf("node %d commits %s, where %s was committed", id, entryText(e), entryText(g.done[e.Index-1]))
		}
	}
}

// confirm holds reads against all that was committed when they were asked.
func (g *group) confirm(list []raft.Read) {
	g.t.Helper()
	for _, x := range list {
		if x.Index < g.asked[x.Ctx] {
			g.t.Fatalf("a read at %d, though %d was committed ahead of it", x.Index, g.asked[x.Ctx])
		}
		g.reads++
	}
}

// look holds a node against the others: one leads in a term.
func (g *group) look(id int) {
	g.t.Helper()
	r := g.nodes[id]
	if r.Role() != raft.Leader {
		return
	}
	term := r.Hard().Term
	if was, is := g.leaders[term]; is && was != id {
		g.t.Fatalf("%d and %d lead in term %d", was, id, term)
	}
	g.leaders[term] = id
}

// happens draws one thing that happens.
func (g *group) happens() {
	id, steps := g.Intn(len(g.nodes)), 1<<30
	r := g.nodes[id]
	switch n := g.Intn(100); {
	case n < 30:
		for range 1 + g.Intn(5) {
			r.Tick(g.Intn(10))
		}
	case n < 72:
		if id = g.deliver(id); id < 0 {
			return
		}
	case n < 75:
		g.Shuffle(len(g.net), func(i, j int) { g.net[i], g.net[j] = g.net[j], g.net[i] })
		g.net = g.net[:g.Intn(len(g.net)+1)]
	case n < 83:
		r.Propose([]byte(fmt.Sprint(g.Intn(1 << 30))))
	case n < 86:
		g.change(r)
	case n < 91:
		ctx := len(g.asked)
		if r.Read(ctx) == api.OK {
			g.asked[ctx] = len(g.done)
		}
	case n < 94:
		g.compact(id)
	case n < 97:
		g.back(id) // behind saving
		return
	default: // in the midst of it
		r.Tick(g.Intn(10))
		steps = g.Intn(6)
	}
	if g.Intn(40) == 0 {
		steps = g.Intn(6)
	}
	g.settle(id, steps)
}

// deliver takes one of the messages; it may come again.
func (g *group) deliver(id int) int {
	if len(g.net) == 0 {
		return -1
	}
	at := g.Intn(len(g.net))
	if g.Intn(3) > 0 {
		at = 0
	}
	m := g.net[at]
	if g.Intn(8) > 0 {
		g.net = slices.Delete(g.net, at, at+1)
	}
	if len(g.net) > 80 {
		g.net = g.net[40:]
	}
	g.nodes[m.To].Step(m)
	return m.To
}

func (g *group) change(r *raft.Raft) {
	v := r.Voters()
	id := g.Intn(len(g.nodes))
	if at, is := slices.BinarySearch(v, id); is {
		v = slices.Delete(v, at, at+1)
	} else {
		v = slices.Insert(v, at, id)
	}
	r.Change(v...)
}

func (g *group) compact(id int) {
	index := g.applied[id] - g.Intn(3)
	r, data := g.nodes[id], []byte(fmt.Sprint("up to ", index))
	if r.Compact(index, data) == api.OK {
		g.disks[id].keepSnap(r.Meta(), data)
		g.shots++
	}
}

// round is a quiet one: all tick, with unlike draws, and all that is on its way is delivered.
func (g *group) round() {
	for id, r := range g.nodes {
		r.Tick(id * 3)
		g.settle(id, 1<<30)
	}
	for left := 2000; len(g.net) > 0 && left > 0; left-- {
		m := g.net[0]
		g.net = g.net[1:]
		g.nodes[m.To].Step(m)
		g.settle(m.To, 1<<30)
	}
}

// TestP1407DrawnStories: messages are lost, doubled and mixed up; nodes crash ahead of saving, in the midst of it and behind it; voters come and go.
func TestP1407DrawnStories(t *testing.T) {
	var terms, done, reads, changes, shots int
	for seed := range int64(150) {
		d := rand.New(rand.NewSource(14070 + seed))
		size := 1 + d.Intn(6)
		g := newGroup(t, d, size, 1+d.Intn(size))
		for range 2500 {
			g.happens()
		}
		terms, done, reads, changes, shots = terms+len(g.leaders), done+len(g.done), reads+g.reads, changes+g.changes, shots+g.shots
	}
	t.Logf("%d leaders, %d entries committed, %d reads, %d changes of voters, %d snapshots", terms, done, reads, changes, shots)
	if terms < 1000 || done < 5000 || reads < 500 || changes < 100 || shots < 500 {
		t.Error("too little happened")
	}
}

// TestP1407T7ItGoesOn: where all are voters, quiet rounds bring a leader, and what is proposed to it is committed by all.
func TestP1407T7ItGoesOn(t *testing.T) {
	for seed := range int64(60) {
		d := rand.New(rand.NewSource(70 + seed))
		size := 1 + d.Intn(7)
		g := newGroup(t, d, size, size)
		for range 600 {
			if g.happens(); g.changes > 0 {
				break
			}
		}
		if len(g.votersOfAll()) != size {
			continue // some were voted out
		}
		for range 100 {
			g.round()
		}
		id := slices.IndexFunc(g.nodes, func(r *raft.Raft) bool { return r.Role() == raft.Leader })
		if id < 0 {
			t.Fatalf("seed %d: nobody leads", seed)
		}
		for i := range 100 {
			index, _, err := g.nodes[id].Propose([]byte(fmt.Sprint("last ", i)))
			if err != api.OK {
				t.Fatalf("seed %d: %v", seed, err)
			}
			for rounds := 0; slices.Min(g.applied) < index; rounds++ {
				if g.settle(id, 1<<30); rounds > 40 {
					t.Fatalf("seed %d: not committed by all: %v, not %d", seed, g.applied, index)
				}
				g.round()
			}
		}
		for other, r := range g.nodes {
			if r.Leader() != id || r.Hard().Term != g.nodes[id].Hard().Term {
				t.Errorf("seed %d: node %d follows %d, not %d", seed, other, r.Leader(), id)
			}
		}
	}
}

// votersOfAll tells the least voters that a node knows.
func (g *group) votersOfAll() []int {
	least := g.nodes[0].Voters()
	for _, r := range g.nodes {
		if v := r.Voters(); len(v) < len(least) {
			least = v
		}
	}
	return least
}
