package node_test

import (
	"fmt"
	"slices"
	"strings"
	"testing"

	"horologe/api"
	"horologe/disk"
	"horologe/node"
	"horologe/raft"
)

func TestP1602TwentyEntriesOneByOne(t *testing.T) {
	d, n := alone(t)
	log := []api.Entry{first(1, 1)}
	at, data := api.Meta{}, []byte(nil)
	for i, c := range puts(70) {
		index, _ := proposes(t, n, c)
		log = append(log, cmd(index, 1, c))
		if index%20 == 0 {
			at, data, log = meta(index, 1, 0), n.Save(), nil
		}
		what := fmt.Sprint("behind ", index)
		if index != i+2 || n.Applied() != index {
			t.Fatalf("%s: applied %d", what, n.Applied())
		}
		if at.Index == 0 {
			isText(t, what, fmt.Sprint(shotNames(t, d)), "[]")
			isLog(t, what, d, at, log...)
			continue
		}
		isSnapshot(t, what, d, at, data, log...)
	}
	if at.Index != 60 {
		t.Error("no third snapshot")
	}
}

// Many that are committed at once are all done ahead of the snapshot.
func TestP1602ManyEntriesAtOnce(t *testing.T) {
	for _, from := range []int{0, 7, 20} {
		for _, more := range []int{1, 18, 19, 20, 21, 40, 63} {
			d := fresh(t)
			n := opened(t, d, 1, 0, 1, 2)
			base := api.Meta{}
			if from > 0 {
				base = meta(from, 1, 0, 1, 2)
				step(t, n, snap(0, 1, base, saved(put("a", "b"))))
			}
			was, _, _ := string(n.Save()), 0, 0
			list := cmds(from, 1, more+5)
			step(t, n, app(0, 1, from, min(from, 1), from, list...))
			isLog(t, "ahead of it", d, base, list...)
			step(t, n, app(0, 1, from+more+5, 1, from+more))
			what := fmt.Sprintf("%d behind %d", more, from)
			isText(t, what, entriesText(n.Done()), entriesText(list[:more]))
			switch {
			case more >= 20:
				isSnapshot(t, what, d, meta(from+more, 1, 0, 1, 2), n.Save(), list[more:]...)
			case from > 0:
				isSnapshot(t, what, d, base, []byte(was), list...)
			default:
				isLog(t, what, d, base, list...)
				isText(t, what, fmt.Sprint(shotNames(t, d)), "[]")
			}
			again := opened(t, d, 1, 0, 1, 2)
			isText(t, what+", opened again", shows(again), strings.Replace(shows(n), "leader 0", "leader -1", 1))
			step(t, n, app(0, 1, from+more+5, 1, from+more+5))
			if n.Applied() != from+more+5 {
				t.Fatalf("%s: applied %d", what, n.Applied())
			}
		}
	}
}

// Who votes at the snapshot's end: not those that an entry behind it tells.
func TestP1602WhoVotesAtASnapshot(t *testing.T) {
	for at, want := range map[int][]int{1: {0, 1}, 10: {0, 1}, 19: {0, 1}, 20: {0, 1}, 21: {0, 1, 2}, 25: {0, 1, 2}} {
		list := cmds(0, 1, 25)
		list[at-1] = voters(at, 1, 0, 1)
		d, n := follower(t, 20, list...)
		isText(t, fmt.Sprint("now, told at ", at), fmt.Sprint(n.Voters()), "[0 1]")
		isSnapshot(t, fmt.Sprint("told at ", at), d, meta(20, 1, want...), n.Save(), list[20:]...)
		isText(t, "opened again", fmt.Sprint(opened(t, d, 1, 0, 1, 2).Voters()), "[0 1]")
	}
}

// The term of a snapshot is that of its last entry.
func TestP1602TheTermOfASnapshot(t *testing.T) {
	for changes := 15; changes <= 25; changes++ {
		list := append(cmds(0, 2, changes), cmds(changes, 5, 26-changes)...)
		d, n := follower(t, 22, list...)
		term := 2
		if changes < 22 {
			term = 5
		}
		isSnapshot(t, fmt.Sprint("from ", changes+1, " on"), d, meta(22, term, 0, 1, 2), n.Save(), list[22:]...)
	}
}

// A leader whose log was shortened sends its snapshot to who lacks what is gone.
func TestP1602ASnapshotIsSent(t *testing.T) {
	_, n := leader(t)
	proposes(t, n, puts(25)...)
	step(t, n, has(0, 1, 24))
	all(n)
	behind := has(2, 1, 0)
	behind.OK = false
	step(t, n, behind)
	out := n.Out()
	isText(t, "it sends", msgsText(out), msgsText([]api.Msg{{Kind: api.MSnap, From: 1, To: 2, Term: 1, Meta: meta(24, 1, 0, 1, 2), Data: n.Save()}}))
	d := fresh(t)
	other := opened(t, d, 2, 0, 1, 2)
	step(t, other, out[0])
	isText(t, "who took it", fmt.Sprintf("%d %s %q", other.Applied(), kvs(other), other.Save()), fmt.Sprintf("%d %s %q", n.Applied(), kvs(n), n.Save()))
	isSnapshot(t, "who took it", d, meta(24, 1, 0, 1, 2), n.Save())
}

// sized is a node that is alone, of whose machine the bytes are some less than those of the longest snapshot; one more entry makes a snapshot due.
func sized(t *testing.T, less int) (*disk.Disk, *node.Node) {
	t.Helper()
	d, n := alone(t)
	full, at := strings.Repeat("v", api.MaxValue), 0
	key := func() string { at++; return fmt.Sprintf("%06d", at) }
	wide := func(values ...string) {
		var ops []api.Op
		for _, v := range values {
			ops = append(ops, api.Op{Kind: api.OPut, Key: key(), Value: v})
		}
		proposes(t, n, api.Cmd{Kind: api.CTxn, Txn: api.Txn{Then: ops}})
	}
	left := func() int { return 1<<23 - less - len(n.Save()) }
	was := left()
	wide("w")
	each := was - left() // bytes that a put has beside its value, if that is a longer one
	was = left()
	wide(slices.Repeat([]string{full}, 15)...)
	for range left()/(was-left()) - 1 {
		wide(slices.Repeat([]string{full}, 15)...)
	}
	for left() > 2*(each+api.MaxValue) {
		wide(full)
	}
	for n.Applied()%20 != 17 {
		proposes(t, n, api.Cmd{Kind: api.CRevoke, Lease: 1})
	}
	gap := left() - 2*each
	wide(strings.Repeat("w", gap/2))
	wide(strings.Repeat("w", gap-gap/2))
	if len(n.Save()) != 1<<23-less || n.Applied()%20 != 19 {
		t.Fatalf("%d bytes, not %d; applied %d", len(n.Save()), 1<<23-less, n.Applied())
	}
	return d, n
}

func TestP1602TheLongestSnapshot(t *testing.T) {
	t.Parallel()
	for _, less := range []int{1, 0} {
		d, n := sized(t, less)
		proposes(t, n, api.Cmd{Kind: api.CRevoke, Lease: 1})
		isSnapshot(t, "just short enough", d, meta(n.Applied(), 1, 0), n.Save())
		isText(t, "opened again", kvs(opened(t, d, 0, 0)), kvs(n))
	}
}

func TestP1602ASnapshotThatIsTooLong(t *testing.T) {
	t.Parallel()
	d, n := sized(t, -1)
	elder := n.Applied() - 19
	isText(t, "the elder one", fmt.Sprint(shotNames(t, d)), fmt.Sprintf("[shot-%012d]", elder))
	for range 22 {
		ops := d.Ops()
		proposes(t, n, api.Cmd{Kind: api.CRevoke, Lease: 1})
		isText(t, "the elder one stays", fmt.Sprint(shotNames(t, d)), fmt.Sprintf("[shot-%012d]", elder))
		if d.Ops() != ops+2 {
			t.Fatalf("%d operations", d.Ops()-ops)
		}
	}
	if n.Applied() != elder+41 {
		t.Fatalf("applied %d", n.Applied())
	}
	again := opened(t, d, 0, 0)
	isText(t, "opened again", kvs(again), kvs(n))
	if got := len(again.Done()); got != 41 {
		t.Errorf("%d entries behind the elder one", got)
	}
	ends := n.Store().Rev()
	proposes(t, n, api.Cmd{Kind: api.CTxn, Txn: api.Txn{Then: []api.Op{{Kind: api.ODelete, Key: "000001", End: "000040"}}}})
	proposes(t, n, api.Cmd{Kind: api.CCompact, Rev: ends + 1})
	if len(n.Save()) > 1<<22*2 {
		t.Fatal("it is not shorter")
	}
	isSnapshot(t, "short enough again", d, meta(elder+43, 1, 0), n.Save())
}

// Behind the greatest Index that a snapshot may have the log goes on without.
func TestP1602IndexesWithoutSnapshots(t *testing.T) {
	const last = 999_999_999_999
	for _, from := range []int{last - 20, last - 19, last} {
		d := fresh(t)
		lay(t, d, meta(from, 1, 0), saved(), meta(from, 1, 0), api.Hard{Term: 1})
		n := opened(t, d, 0, 0)
		leads(t, n)
		proposes(t, n, puts(50)...)
		if n.Role() != raft.Leader || n.Applied() != from+51 {
			t.Fatalf("applied %d", n.Applied())
		}
		want := from
		if from == last-20 {
			want = last
		}
		isText(t, "snapshots", fmt.Sprint(shotNames(t, d)), fmt.Sprintf("[shot-%012d]", want))
		isText(t, "opened again", kvs(opened(t, d, 0, 0)), kvs(n))
	}
}
