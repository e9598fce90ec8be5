package node_test

import (
	"fmt"
	"math/rand"
	"slices"
	"strings"
	"testing"

	"horologe/api"
	"horologe/disk"
	"horologe/machine"
	"horologe/net"
	"horologe/node"
	"horologe/raft"
)

// client makes a call again and again, till it is answered, and then the next one.
type client struct {
	seq   int
	floor int // where the last call stands that was answered when this one began
}

func (c client) cmd(id int) api.Cmd {
	return call(id, c.seq, fmt.Sprint("client", id), fmt.Sprint(c.seq))
}

// group are nodes over one net, with their clients.
type group struct {
	t      *testing.T
	r      *rand.Rand
	way    *net.Net
	voters []int
	disks  []*disk.Disk
	nodes  []*node.Node // none: it is down
	hards  []api.Hard   // what each has shown last

	log     map[int]api.Entry // what was done, by its index
	ref     *machine.Machine  // of what was done, one behind the other
	upTo    int
	replies map[int]string // by the index
	states  map[int]string // the machine's bytes, by how far it was applied
	heads   map[int]int    // who leads, by the term
	firsts  map[[2]int]int // where a client's call stands first

	clients  []client // the first one is nobody's
	answered int      // where the last one stands that was answered
	asked    []int    // reads, by their number: what was answered when it was asked
	got      map[string]int
}

func newGroup(t *testing.T, seed int64, count int, voters ...int) *group {
	g := &group{t: t, r: rand.New(rand.NewSource(seed)), way: net.New(), voters: voters, ref: machine.New(), clients: make([]client, 4), got: map[string]int{}}
	g.log, g.replies, g.states = map[int]api.Entry{}, map[int]string{}, map[int]string{}
	g.heads, g.firsts = map[int]int{}, map[[2]int]int{}
	for i := range g.clients {
		g.clients[i].seq = 1
	}
	g.disks, g.nodes, g.hards = make([]*disk.Disk, count), make([]*node.Node, count), make([]api.Hard, count)
	for i := range count {
		g.disks[i] = fresh(t)
		g.hards[i].Vote = -1
		g.opens(i)
	}
	return g
}

// opens brings a node up that is down.
func (g *group) opens(i int) {
	g.t.Helper()
	n, err := node.Open(g.disks[i], i, g.voters)
	if err == api.ErrDead {
		g.crash(i)
		return
	}
	is(g.t, "Open", err, api.OK)
	g.nodes[i] = n
	g.hear(i)
}

// crash takes a node down; of what it was writing some bytes stay.
func (g *group) crash(i int) {
	g.nodes[i] = nil
	g.disks[i].Crash(g.r.Intn(200), g.r.Intn(200))
	g.got["crashes"]++
}

// hear asks a node for what came, and for what it shows.
func (g *group) hear(i int) {
	g.t.Helper()
	n := g.nodes[i]
	c := all(n)
	for _, e := range c.done {
		if was, is := g.log[e.Index]; is && entryText(was) != entryText(e) {
			g.t.Fatalf("T2: %d did %s, another one %s", i, entryText(e), entryText(was))
		}
		g.log[e.Index] = e
	}
	g.follow()
	for _, a := range c.answers {
		g.hearAnswer(a)
	}
	for _, ctx := range c.reads {
		g.got["reads"]++
		if !n.Dead() && n.Applied() < g.asked[ctx] {
			g.t.Fatalf("T1: a read at %d, when %d was answered", n.Applied(), g.asked[ctx])
		}
	}
	for _, m := range c.out {
		b, err := net.Encode(m)
		is(g.t, "Encode", err, api.OK)
		m, err = net.Parse(b)
		is(g.t, "Parse", err, api.OK)
		g.way.Send(m)
		g.got[fmt.Sprint("message ", m.Kind)]++
	}
	if n.Dead() {
		g.crash(i)
		return
	}
	g.look(i)
}

// follow does what was done on a machine of its own.
func (g *group) follow() {
	for {
		e, is := g.log[g.upTo+1]
		if !is {
			return
		}
		g.upTo++
		c, err := machine.ParseCmd(e.Data)
		if e.Kind == api.EData && err == api.OK {
			g.replies[g.upTo] = fmt.Sprintf("%+v", g.ref.Apply(c))
			if key := [2]int{c.Client, c.Seq}; g.firsts[key] == 0 {
				g.firsts[key] = g.upTo
			}
		}
		g.agree("the machine of its own", g.upTo, g.ref.Save())
	}
}

func (g *group) agree(what string, applied int, save []byte) {
	g.t.Helper()
	if was, is := g.states[applied]; is && was != string(save) {
		g.t.Fatalf("T2: %s applied up to %d is not as another one", what, applied)
	}
	g.states[applied] = string(save)
}

func (g *group) hearAnswer(a node.Answer) {
	g.t.Helper()
	g.got["answers"]++
	if a.Term != g.log[a.Index].Term || fmt.Sprintf("%+v", a.Reply) != g.replies[a.Index] {
		g.t.Fatalf("T1: %+v, not %s", a, g.replies[a.Index])
	}
	cmd, _ := machine.ParseCmd(g.log[a.Index].Data)
	at := g.firsts[[2]int{cmd.Client, cmd.Seq}]
	if cmd.Client == 0 {
		at = a.Index
	} else if c := &g.clients[cmd.Client]; c.seq == cmd.Seq {
		if at <= c.floor {
			g.t.Fatalf("T1: call %+v stands at %d, ahead of %d, which was answered then", cmd, at, c.floor)
		}
		*c = client{c.seq + 1, max(g.answered, at)}
	}
	g.answered = max(g.answered, at)
}

// look holds what a node shows against what it has shown, and others.
func (g *group) look(i int) {
	g.t.Helper()
	n := g.nodes[i]
	h, was := n.Hard(), g.hards[i]
	if h.Term < was.Term || h.Term == was.Term && was.Vote >= 0 && h.Vote != was.Vote || h.Commit < was.Commit {
		g.t.Fatalf("T3: %d has %+v, had %+v", i, h, was)
	}
	g.hards[i] = h
	g.agree(fmt.Sprint("node ", i), n.Applied(), n.Save())
	if n.Role() != raft.Leader {
		return
	}
	if who, is := g.heads[h.Term]; is && who != i {
		g.t.Fatalf("T2: %d and %d lead in term %d", i, who, h.Term)
	} else if !is {
		g.heads[h.Term] = i
		g.hasAll(i)
	}
}

// hasAll holds a new leader's log against what was committed.
func (g *group) hasAll(i int) {
	g.t.Helper()
	s := stateOf(g.t, g.disks[i])
	for index := s.Meta.Index + 1; index <= g.upTo; index++ {
		if !hasEntry(s, g.log[index]) {
			g.t.Fatalf("T2: the leader %d lacks %s", i, entryText(g.log[index]))
		}
	}
}

// lets is a call of a node, if it is up.
func (g *group) lets(i int, call func(n *node.Node)) {
	g.t.Helper()
	if g.nodes[i] != nil {
		call(g.nodes[i])
		g.hear(i)
	}
}

func (g *group) deliver(i int) {
	g.t.Helper()
	if m, err := g.way.Deliver(i); err == api.OK {
		g.lets(m.To, func(n *node.Node) { n.Step(m) })
	}
}

// storm is one thing that happens.
func (g *group) storm(changes bool) {
	g.t.Helper()
	i := g.r.Intn(len(g.nodes))
	switch k := g.r.Intn(200); {
	case k < 90:
		g.deliver(0)
	case k < 120:
		g.deliver(g.r.Intn(1 + g.way.Len()))
	case k < 125:
		g.way.Drop(g.r.Intn(1 + g.way.Len()))
	case k < 130:
		g.way.Double(g.r.Intn(1 + g.way.Len()))
	case k < 150:
		g.lets(i, func(n *node.Node) { n.Tick(g.r.Intn(10)) })
	case k < 175:
		who := g.r.Intn(len(g.clients))
		g.lets(i, func(n *node.Node) { n.Propose(g.clients[who].cmd(who)) })
	case k < 180:
		g.asked = append(g.asked, g.answered)
		g.lets(i, func(n *node.Node) { n.Read(len(g.asked) - 1) })
	case k < 190:
		if changes {
			g.change(i)
		}
	case k < 191:
		g.disks[i].Stop(1 + g.r.Intn(14))
	default:
		if g.nodes[i] == nil {
			g.opens(i)
		} else if g.r.Intn(30) == 0 {
			g.crash(i)
		}
	}
}

// change lets a node have one voter more, or one less.
func (g *group) change(i int) {
	g.t.Helper()
	g.lets(i, func(n *node.Node) {
		ids, who := n.Voters(), g.r.Intn(len(g.nodes))
		if at, is := slices.BinarySearch(ids, who); is {
			ids = slices.Delete(ids, at, at+1)
		} else {
			ids = slices.Insert(ids, at, who)
		}
		if len(ids) > 1 && n.Change(ids...) == api.OK {
			g.got["changes"]++
		}
	})
}

// calm brings all nodes up, on disks that do not stop.
func (g *group) calm() {
	g.t.Helper()
	for i, n := range g.nodes {
		g.disks[i].Stop(0)
		if n == nil {
			g.opens(i)
		}
	}
}

// quiet is a quiet round.
func (g *group) quiet(round int) {
	g.t.Helper()
	for i := range g.nodes {
		g.lets(i, func(n *node.Node) { n.Tick(3*i + round) })
	}
	for g.way.Len() > 0 {
		g.deliver(0)
	}
}

// head is who leads alone, and whom all follow; -1, if there is none.
func (g *group) head() int {
	who := g.nodes[0].Leader()
	for i, n := range g.nodes {
		if n.Leader() != who || (n.Role() == raft.Leader) != (i == who) {
			return -1
		}
	}
	return who
}

// goesOn asks for T7: one leads behind 100 quiet rounds, and answers each call within 40 more.
func (g *group) goesOn() {
	g.t.Helper()
	for round := range 100 {
		g.quiet(round)
	}
	who := g.head()
	if who < 0 {
		g.t.Fatal("T7: nobody leads")
	}
	for i := range 25 {
		id := 1 + i%3
		was := g.clients[id].seq
		g.lets(who, func(n *node.Node) { is(g.t, "Propose", third(n.Propose(g.clients[id].cmd(id))), api.OK) })
		for round := 0; g.clients[id].seq == was; round++ {
			if round == 40 {
				g.t.Fatal("T7: a call is not answered")
			}
			g.quiet(round)
		}
	}
	for round := range 3 {
		g.quiet(round)
	}
	for i, n := range g.nodes {
		if n.Applied() != g.upTo || n.Hard().Commit != g.upTo {
			g.t.Fatalf("T7: %d applied %d of %d", i, n.Applied(), g.upTo)
		}
	}
}

// once asks for T1, T3: each client's calls were done once, one behind the other, and are there.
func (g *group) once() {
	g.t.Helper()
	for i, n := range g.nodes {
		for id := 1; id < len(g.clients); id++ {
			list, _, _ := n.Store().Range(fmt.Sprint("client", id), "", 0, 0)
			want := g.clients[id].seq - 1
			if len(list) != 1 || list[0].Version != want || list[0].Value != fmt.Sprint(want) {
				g.t.Fatalf("T1, T3: at %d: %+v, though %d calls of %d were answered", i, list, want, id)
			}
		}
	}
}

// text is all that a group has come to.
func (g *group) text() string {
	var parts []string
	for _, n := range g.nodes {
		if n == nil {
			parts = append(parts, "down")
		} else {
			parts = append(parts, shows(n))
		}
	}
	return fmt.Sprintf("%s\n%d on their way, %+v, %v", strings.Join(parts, "\n"), g.way.Len(), g.clients, g.got)
}

func isMany(t *testing.T, got map[string]int, least map[string]int) {
	t.Helper()
	for what, many := range least {
		if got[what] < many {
			t.Errorf("%s: %d", what, got[what])
		}
	}
	t.Log(got)
}

func gather(sum, got map[string]int) {
	for what, many := range got {
		sum[what] += many
	}
}

func TestP1605AGroup(t *testing.T) {
	t.Parallel()
	got := map[string]int{}
	for seed := range int64(40) {
		g := newGroup(t, seed, 3, 0, 1, 2)
		for range 2 {
			for range 4000 {
				g.storm(false)
			}
			g.calm()
			g.goesOn()
			g.once()
			for i := range g.nodes { // all of them together
				g.crash(i)
			}
			for i := range g.nodes {
				g.opens(i)
			}
			g.goesOn()
			g.once()
		}
		gather(got, g.got)
	}
	isMany(t, got, map[string]int{"answers": 6000, "reads": 500, "crashes": 1000, "message 5": 300})
}

// Voters come and go; in the end all are.
func TestP1605AGroupWhoseVotersChange(t *testing.T) {
	t.Parallel()
	got := map[string]int{}
	for seed := range int64(60) {
		g := newGroup(t, 1000+seed, 5, 0, 1, 2)
		for range 6000 {
			g.storm(true)
		}
		g.calm()
		for round := 0; g.head() < 0 || len(g.nodes[g.head()].Voters()) < len(g.nodes); round++ {
			if round == 3000 {
				t.Fatalf("seed %d: not all are voters", seed)
			}
			g.quiet(round)
			for i := range g.nodes {
				g.lets(i, func(n *node.Node) { n.Change(oneMore(n.Voters())...) })
			}
		}
		g.goesOn()
		g.once()
		gather(got, g.got)
	}
	isMany(t, got, map[string]int{"answers": 2000, "changes": 200, "crashes": 1000, "message 5": 300})
}

// oneMore are voters and the first node that is none of them.
func oneMore(ids []int) []int {
	for id := range 5 {
		if at, is := slices.BinarySearch(ids, id); !is {
			return slices.Insert(ids, at, id)
		}
	}
	return ids
}

// Two groups have nothing in common: each comes to what it comes to alone.
func TestP7TwoGroups(t *testing.T) {
	for seed := range int64(10) {
		alone := []*group{newGroup(t, seed, 3, 0, 1, 2), newGroup(t, seed+100, 5, 0, 1, 2)}
		both := []*group{newGroup(t, seed, 3, 0, 1, 2), newGroup(t, seed+100, 5, 0, 1, 2)}
		for _, g := range alone {
			for range 2000 {
				g.storm(true)
			}
		}
		for range 2000 {
			for _, g := range both {
				g.storm(true)
			}
		}
		for i := range alone {
			isText(t, "a group", both[i].text(), alone[i].text())
		}
	}
}
