package node_test

import (
	"fmt"
	"testing"

	"horologe/api"
	"horologe/machine"
	"horologe/node"
)

// isShown holds each call by itself against what it must show.
func isShown(t *testing.T, what string, n *node.Node, want string) {
	t.Helper()
	isText(t, what, fmt.Sprint(n.Dead(), " role ", n.Role(), " leader ", n.Leader(), " ", n.Hard(), " ", n.Voters(), " applied ", n.Applied(), " clock ", n.Clock(), " rev ", n.Store().Rev()), want)
}

// fill proposes what moves keys and clock.
func fill(t *testing.T, n *node.Node) {
	t.Helper()
	proposes(t, n, put("a", "1"), api.Cmd{Kind: api.CClock, Time: 12}, put("b", "2"))
}

func TestP1604OneThatIsAlone(t *testing.T) {
	d := fresh(t)
	n := opened(t, d, 4, 4)
	isShown(t, "new", n, "false role 0 leader -1 {0 -1 0} [4] applied 0 clock 0 rev 0")
	leads(t, n)
	isShown(t, "it leads", n, "false role 2 leader 4 {1 4 1} [4] applied 1 clock 0 rev 0")
	fill(t, n)
	isShown(t, "and has done commands", n, "false role 2 leader 4 {1 4 4} [4] applied 4 clock 12 rev 2")
	n = opened(t, d, 4, 4)
	isShown(t, "opened again", n, "false role 0 leader -1 {1 4 4} [4] applied 4 clock 12 rev 2")
	leads(t, n)
	isShown(t, "it leads again", n, "false role 2 leader 4 {2 4 5} [4] applied 5 clock 12 rev 2")
	d.Stop(1)
	is(t, "Propose", third(n.Propose(put("a", "b"))), api.ErrDead)
	isShown(t, "dead", n, "true role 0 leader -1 {0 0 0} [] applied 0 clock 0 rev 0")
	isDead(t, "dead", n)
	d.Crash()
	isShown(t, "opened again", opened(t, d, 4, 4), "false role 0 leader -1 {2 4 5} [4] applied 5 clock 12 rev 2")
}

func TestP1604OneThatLeads(t *testing.T) {
	d := fresh(t)
	n := opened(t, d, 1, 0, 1, 2)
	stands(t, n)
	isShown(t, "it stands", n, "false role 1 leader -1 {1 1 0} [0 1 2] applied 0 clock 0 rev 0")
	step(t, n, granted(2, 1))
	isShown(t, "it leads", n, "false role 2 leader 1 {1 1 0} [0 1 2] applied 0 clock 0 rev 0")
	fill(t, n)
	isShown(t, "nothing is committed", n, "false role 2 leader 1 {1 1 0} [0 1 2] applied 0 clock 0 rev 0")
	step(t, n, has(2, 1, 3))
	isShown(t, "three entries are", n, "false role 2 leader 1 {1 1 3} [0 1 2] applied 3 clock 12 rev 1")
	is(t, "Change", n.Change(0, 1, 2, 7), api.OK)
	isShown(t, "voters", n, "false role 2 leader 1 {1 1 3} [0 1 2 7] applied 3 clock 12 rev 1")
	isShown(t, "opened again", opened(t, d, 1, 0, 1), "false role 0 leader -1 {1 1 3} [0 1 2 7] applied 3 clock 12 rev 1")
}

func TestP1604OneThatFollows(t *testing.T) {
	d := fresh(t)
	n := opened(t, d, 1, 0, 1, 2)
	step(t, n, app(2, 3, 0, 0, 2, cmd(1, 2, put("a", "1")), cmd(2, 3, api.Cmd{Kind: api.CClock, Time: 8}), voters(3, 3, 1, 2)))
	isShown(t, "it follows", n, "false role 0 leader 2 {3 -1 2} [1 2] applied 2 clock 8 rev 1")
	step(t, n, snap(2, 3, meta(9, 3, 2, 3), saved(put("a", "1"), put("b", "2"))))
	isShown(t, "a snapshot", n, "false role 0 leader 2 {3 -1 9} [2 3] applied 9 clock 0 rev 2")
	step(t, n, api.Msg{Kind: api.MVote, From: 0, To: 1, Term: 5, Index: 9, LogTerm: 3})
	isShown(t, "it votes", n, "false role 0 leader -1 {5 0 9} [2 3] applied 9 clock 0 rev 2")
	isShown(t, "opened again", opened(t, d, 1, 1), "false role 0 leader -1 {5 0 9} [2 3] applied 9 clock 0 rev 2")
}

// Store is the machine's own, so that whoever has it sees what is done later.
func TestP1604Store(t *testing.T) {
	_, n := alone(t)
	s := n.Store()
	for i := range 50 {
		proposes(t, n, put(fmt.Sprint("k", i), "v"))
		if s.Rev() != i+1 || n.Store() != s {
			t.Fatalf("revision %d, not %d", s.Rev(), i+1)
		}
	}
}

// Save is the machine's, with all that it is: keys, leases, clients, clock.
func TestP1604Save(t *testing.T) {
	_, n := alone(t)
	list := []api.Cmd{
		{Kind: api.CGrant, Lease: 5, TTL: 10}, call(2, 1, "a", "b"), {Kind: api.CClock, Time: 3},
		{Kind: api.CTxn, Txn: api.Txn{Then: []api.Op{{Kind: api.OPut, Key: "l", Lease: 5}}}}, {Kind: api.CCompact, Rev: 1},
	}
	proposes(t, n, list...)
	isText(t, "Save", fmt.Sprintf("%q", n.Save()), fmt.Sprintf("%q", saved(list...)))
	m, err := machine.Load(n.Save())
	is(t, "Load", err, api.OK)
	if m.Clock() != n.Clock() || m.Store().Rev() != n.Store().Rev() || len(m.Leases()) != 1 {
		t.Error("another machine")
	}
}
