package node_test

import (
	"bytes"
	"fmt"
	"slices"
	"strings"
	"testing"

	"horologe/api"
	"horologe/disk"
	"horologe/machine"
	"horologe/node"
	"horologe/raft"
	"horologe/shots"
	"horologe/wal"
)

// fresh is a disk with room for all that the tests lay there.
func fresh(t *testing.T) *disk.Disk {
	t.Helper()
	d, err := disk.New(1 << 26)
	if err != api.OK {
		t.Fatal(err)
	}
	return d
}

// opened is a node that lives.
func opened(t *testing.T, d *disk.Disk, id int, voters ...int) *node.Node {
	t.Helper()
	n, err := node.Open(d, id, voters)
	if err != api.OK || n == nil || n.Dead() {
		t.Fatalf("Open: %v", err)
	}
	return n
}

// alone is node 0, which alone votes, and leads in term 1: it was asked for all that came of that.
func alone(t *testing.T) (*disk.Disk, *node.Node) {
	t.Helper()
	d := fresh(t)
	n := opened(t, d, 0, 0)
	leads(t, n)
	all(n)
	return d, n
}

// leads lets a node that alone votes lead.
func leads(t *testing.T, n *node.Node) {
	t.Helper()
	for range 20 {
		if n.Role() != raft.Leader {
			is(t, "Tick", n.Tick(0), api.OK)
		}
	}
	if n.Role() != raft.Leader {
		t.Fatal("it does not lead")
	}
}

// leader is node 1 of 0, 1, 2, which leads in term 1, and whose first entry is committed.
func leader(t *testing.T) (*disk.Disk, *node.Node) {
	t.Helper()
	d := fresh(t)
	n := opened(t, d, 1, 0, 1, 2)
	stands(t, n)
	step(t, n, granted(0, 1))
	step(t, n, has(0, 1, 1))
	all(n)
	return d, n
}

// stands lets a node tick till it stands.
func stands(t *testing.T, n *node.Node) {
	t.Helper()
	for range 20 {
		if n.Role() != raft.Candidate {
			is(t, "Tick", n.Tick(0), api.OK)
		}
	}
	if n.Role() != raft.Candidate {
		t.Fatal("it does not stand")
	}
}

func is(t *testing.T, what string, got, want api.Errno) {
	t.Helper()
	if got != want {
		t.Fatalf("%s: %v, not %v", what, got, want)
	}
}

func isText(t *testing.T, what, got, want string) {
	t.Helper()
	if got != want {
		t.Fatalf("%s:\n%s\nnot\n%s", what, got, want)
	}
}

func step(t *testing.T, n *node.Node, m api.Msg) {
	t.Helper()
	is(t, "Step", n.Step(m), api.OK)
}

// proposes lets a leader lay commands behind its log, and tells where the last one lies.
func proposes(t *testing.T, n *node.Node, list ...api.Cmd) (int, int) {
	t.Helper()
	index, term := 0, 0
	for _, c := range list {
		i, at, err := n.Propose(c)
		is(t, "Propose", err, api.OK)
		index, term = i, at
	}
	return index, term
}

// put is a command of nobody; call is a client's.
func put(key, value string) api.Cmd { return call(0, 0, key, value) }

func call(client, seq int, key, value string) api.Cmd {
	return api.Cmd{Client: client, Seq: seq, Kind: api.CTxn, Txn: api.Txn{Then: []api.Op{{Kind: api.OPut, Key: key, Value: value}}}}
}

// puts are n commands, each of a value of its own.
func puts(n int) []api.Cmd {
	var list []api.Cmd
	for i := range n {
		list = append(list, put(fmt.Sprint("k", i%5), fmt.Sprint(i)))
	}
	return list
}

// bytesOf are a command's.
func bytesOf(c api.Cmd) []byte {
	b, err := machine.EncodeCmd(c)
	if err != api.OK {
		panic(err)
	}
	return b
}

// saved are the bytes of the machine that did these commands.
func saved(list ...api.Cmd) []byte {
	m := machine.New()
	for _, c := range list {
		m.Apply(c)
	}
	return m.Save()
}

// Entries: of a command, of bytes that tell none, a leader's first, of who votes.
func cmd(index, term int, c api.Cmd) api.Entry {
	return api.Entry{Index: index, Term: term, Data: bytesOf(c)}
}

func odd(index, term int, text string) api.Entry {
	return api.Entry{Index: index, Term: term, Data: []byte(text)}
}

func first(index, term int) api.Entry { return api.Entry{Index: index, Term: term, Kind: api.EEmpty} }

func voters(index, term int, ids ...int) api.Entry {
	b := []byte{byte(len(ids))}
	for _, id := range ids {
		b = append(b, 0, 0, 0, 0, byte(id>>24), byte(id>>16), byte(id>>8), byte(id))
	}
	return api.Entry{Index: index, Term: term, Kind: api.EVoters, Data: b}
}

// cmds are n entries behind an index.
func cmds(index, term, n int) []api.Entry {
	var list []api.Entry
	for i := range n {
		at := index + 1 + i
		list = append(list, cmd(at, term, put(fmt.Sprint("k", at%5), fmt.Sprint(at))))
	}
	return list
}

// Messages to node 1: a vote that it asked for, what a voter has, what a leader has, a snapshot.
func granted(from, term int) api.Msg {
	return api.Msg{Kind: api.MVoteReply, From: from, To: 1, Term: term, OK: true}
}

func has(from, term, match int) api.Msg {
	return api.Msg{Kind: api.MAppReply, From: from, To: 1, Term: term, OK: true, Match: match}
}

func app(from, term, index, logTerm, commit int, list ...api.Entry) api.Msg {
	return api.Msg{Kind: api.MApp, From: from, To: 1, Term: term, Index: index, LogTerm: logTerm, Commit: commit, Entries: list}
}

func snap(from, term int, m api.Meta, data []byte) api.Msg {
	return api.Msg{Kind: api.MSnap, From: from, To: 1, Term: term, Meta: m, Data: data}
}

func meta(index, term int, ids ...int) api.Meta {
	return api.Meta{Index: index, Term: term, Voters: ids}
}

func metaText(m api.Meta) string { return fmt.Sprintf("%d/%d%v", m.Index, m.Term, m.Voters) }

func entryText(e api.Entry) string {
	return fmt.Sprintf("%d/%d.%d%q", e.Index, e.Term, e.Kind, e.Data)
}

func entriesText(list []api.Entry) string {
	var parts []string
	for _, e := range list {
		parts = append(parts, entryText(e))
	}
	return strings.Join(parts, " ")
}

func msgText(m api.Msg) string {
	return fmt.Sprintf("%d %d>%d t%d i%d l%d [%s] c%d s%d %v m%d {%s %q}", m.Kind, m.From, m.To, m.Term, m.Index, m.LogTerm, entriesText(m.Entries), m.Commit, m.Seq, m.OK, m.Match, metaText(m.Meta), m.Data)
}

func msgsText(list []api.Msg) string {
	var parts []string
	for _, m := range list {
		parts = append(parts, msgText(m))
	}
	return strings.Join(parts, "\n")
}

func answersText(list []node.Answer) string { return fmt.Sprintf("%+v", list) }

// came is all that came of a node's calls.
type came struct {
	out     []api.Msg
	answers []node.Answer
	reads   []int
	done    []api.Entry
}

// all asks a node for all that came.
func all(n *node.Node) came { return came{n.Out(), n.Answers(), n.Reads(), n.Done()} }

func (c came) text() string {
	return fmt.Sprintf("out %s\nanswers %s\nreads %v\ndone %s", msgsText(c.out), answersText(c.answers), c.reads, entriesText(c.done))
}

// kvs are all keys of a node.
func kvs(n *node.Node) string {
	list, _, _ := n.Store().Range("\x00", "\xff", 0, 0)
	return fmt.Sprintf("%d %d %+v", n.Store().Rev(), n.Store().Compacted(), list)
}

// shows is all that a node shows.
func shows(n *node.Node) string {
	return fmt.Sprintf("dead %v role %d leader %d hard %+v voters %v applied %d clock %d keys %s save %q", n.Dead(), n.Role(), n.Leader(), n.Hard(), n.Voters(), n.Applied(), n.Clock(), kvs(n), n.Save())
}

// deadShows is what a dead one shows.
const deadShows = `dead true role 0 leader -1 hard {Term:0 Vote:0 Commit:0} voters [] applied 0 clock 0 keys 0 0 [] save ""`

// isDead asks a node for all that a dead one answers.
func isDead(t *testing.T, what string, n *node.Node) {
	t.Helper()
	isText(t, what, shows(n), deadShows)
	for range 2 {
		index, term, err := n.Propose(put("a", "b"))
		if index != 0 || term != 0 || err != api.ErrDead {
			t.Fatalf("%s: Propose: %d, %d, %v", what, index, term, err)
		}
		is(t, what+": Propose of no kind", third(n.Propose(api.Cmd{Kind: 9})), api.ErrDead)
		is(t, what+": Step", n.Step(app(0, 1, 0, 0, 0)), api.ErrDead)
		is(t, what+": Step of a spoilt snapshot", n.Step(snap(0, 1, meta(5, 1, 0), nil)), api.ErrDead)
		is(t, what+": Tick", n.Tick(0), api.ErrDead)
		is(t, what+": Change", n.Change(0, 1), api.ErrDead)
		is(t, what+": Read", n.Read(1), api.ErrDead)
		isText(t, what, shows(n), deadShows)
	}
}

func third(_, _ int, err api.Errno) api.Errno { return err }

// stateText is a log's.
func stateText(s wal.State) string {
	return fmt.Sprintf("%+v behind %s: %s", s.Hard, metaText(s.Meta), entriesText(s.Entries))
}

// lies is what lies on a disk, as the layers below tell it.
func lies(t *testing.T, d *disk.Disk) string {
	t.Helper()
	_, s, err := wal.Open(d)
	is(t, "wal.Open", err, api.OK)
	m, data, err := shots.Load(d)
	if err != api.OK && err != api.ErrNone {
		t.Fatalf("shots.Load: %v", err)
	}
	return fmt.Sprintf("log %s\nsnapshot %s %q", stateText(s), metaText(m), data)
}

// files are a disk's, byte for byte.
func files(t *testing.T, d *disk.Disk) string {
	t.Helper()
	names, err := d.List()
	is(t, "List", err, api.OK)
	var parts []string
	for _, name := range names {
		b, err := d.Read(name)
		is(t, "Read", err, api.OK)
		parts = append(parts, fmt.Sprintf("%s %q", name, b))
	}
	return strings.Join(parts, "\n")
}

// copied is a disk of its own with the same files, all synced.
func copied(t *testing.T, d *disk.Disk, room int) *disk.Disk {
	t.Helper()
	c, _ := disk.New(room)
	names, err := d.List()
	is(t, "List", err, api.OK)
	for _, name := range names {
		b, err := d.Read(name)
		is(t, "Read", err, api.OK)
		is(t, "Append", c.Append(name, b), api.OK)
		is(t, "Sync", c.Sync(name), api.OK)
	}
	return c
}

// shotNames are those of a disk's snapshots.
func shotNames(t *testing.T, d *disk.Disk) []string {
	t.Helper()
	names, err := d.List()
	is(t, "List", err, api.OK)
	return slices.DeleteFunc(names, func(s string) bool { return !strings.HasPrefix(s, "shot") })
}

// isSnapshot asks a disk for the only snapshot on it, which the log begins at, and for the log's entries behind it.
func isSnapshot(t *testing.T, what string, d *disk.Disk, m api.Meta, data []byte, entries ...api.Entry) {
	t.Helper()
	isText(t, what+": names", fmt.Sprint(shotNames(t, d)), fmt.Sprintf("[shot-%012d]", m.Index))
	got, b, err := shots.Load(d)
	is(t, what, err, api.OK)
	isText(t, what+": snapshot", metaText(got), metaText(m))
	if !bytes.Equal(b, data) {
		t.Fatalf("%s: %d bytes, not the %d of the machine", what, len(b), len(data))
	}
	isLog(t, what, d, m, entries...)
}

// isLog asks a disk for where the log on it begins, and what stands there.
func isLog(t *testing.T, what string, d *disk.Disk, m api.Meta, entries ...api.Entry) {
	t.Helper()
	_, s, err := wal.Open(d)
	is(t, what, err, api.OK)
	isText(t, what+": log", metaText(s.Meta)+" "+entriesText(s.Entries), metaText(m)+" "+entriesText(entries))
}
