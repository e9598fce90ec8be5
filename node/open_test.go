package node_test

import (
	"fmt"
	"testing"

	"horologe/api"
	"horologe/disk"
	"horologe/node"
	"horologe/shots"
	"horologe/wal"
)

// lay lays a snapshot (of Index 0: none) onto a disk, and a log: behind a base (of Index 0: from the beginning on), a hard state, entries.
func lay(t *testing.T, d *disk.Disk, shot api.Meta, data []byte, base api.Meta, h api.Hard, list ...api.Entry) {
	t.Helper()
	if shot.Index > 0 {
		is(t, "shots.Save", shots.Save(d, shot, data), api.OK)
	}
	l, _, err := wal.Open(d)
	is(t, "wal.Open", err, api.OK)
	if base.Index > 0 {
		is(t, "Cut", l.Cut(base), api.OK)
	}
	is(t, "wal.Save", l.Save(&h, list...), api.OK)
}

func refuses(t *testing.T, what string, d *disk.Disk, id int, ids []int, want api.Errno) {
	t.Helper()
	n, err := node.Open(d, id, ids)
	if n != nil || err != want {
		t.Fatalf("%s: %v, not %v", what, err, want)
	}
}

func TestP1601AnEmptyDisk(t *testing.T) {
	for _, c := range []struct {
		id  int
		ids []int
	}{{0, []int{0}}, {2, []int{0, 1}}, {1<<30 - 1, []int{0, 5, 1<<30 - 1}}, {3, []int{0, 1, 2, 3, 4, 5, 6}}} {
		d := fresh(t)
		n := opened(t, d, c.id, c.ids...)
		isText(t, "a new node", all(n).text(), came{}.text())
		isText(t, "a new node", shows(n), fmt.Sprintf("dead false role 0 leader -1 hard {Term:0 Vote:-1 Commit:0} voters %v applied 0 clock 0 keys 0 0 [] save %q", c.ids, saved()))
		if d.Ops() != 0 {
			t.Errorf("%d operations", d.Ops())
		}
	}
}

func TestP1601TheDisksError(t *testing.T) {
	for _, ids := range [][]int{{0}, nil} {
		d := fresh(t)
		lay(t, d, meta(5, 1, 0), []byte("no machine"), meta(9, 1, 0), api.Hard{})
		d.Stop(1)
		d.Sync("x")
		refuses(t, "a disk that has stopped", d, 0, ids, api.ErrDead)
	}
}

// A disk without room for a log's cut, or for what settling saves.
func TestP1601NoRoom(t *testing.T) {
	d := fresh(t)
	lay(t, d, meta(5, 1, 0), saved(), api.Meta{}, api.Hard{Term: 1}, cmds(0, 1, 9)...)
	d = copied(t, d, d.Used())
	ahead := files(t, d)
	refuses(t, "no room for a cut", d, 0, []int{0}, api.ErrFull)
	isText(t, "no room for a cut", files(t, d), ahead)

	d = fresh(t)
	lay(t, d, meta(5, 3, 0), saved(), meta(5, 3, 0), api.Hard{Term: 1})
	d = copied(t, d, d.Used())
	n, err := node.Open(d, 0, []int{0})
	if err != api.OK || n == nil {
		t.Fatalf("no room for the term: %v", err)
	}
	isDead(t, "no room for the term", n)
}

func TestP1601WhatMayNotBe(t *testing.T) {
	h := api.Hard{Term: 1}
	one := []int{0}
	for _, c := range []struct {
		what  string
		shot  api.Meta
		data  string
		base  api.Meta
		list  []api.Entry
		id    int
		ids   []int
		wants api.Errno
	}{
		{"a snapshot of no machine", meta(5, 1, 0), "no machine", meta(5, 1, 0), nil, 0, one, api.ErrBad},
		{"a snapshot without bytes", meta(5, 1, 0), "", meta(5, 1, 0), nil, 0, one, api.ErrBad},
		{"a snapshot that is cut short", meta(5, 1, 0), string(saved()[:len(saved())-1]), api.Meta{}, nil, 0, one, api.ErrBad},
		{"a snapshot with more behind", meta(5, 1, 0), string(saved()) + "x", api.Meta{}, nil, 0, one, api.ErrBad},
		{"a snapshot of no machine, and no id", meta(5, 1, 0), "no machine", meta(5, 1, 0), nil, -1, nil, api.ErrBad},
		{"a snapshot of no machine, and no voters in it", api.Meta{Index: 5, Term: 1}, "no machine", api.Meta{}, nil, 0, one, api.ErrBad},
		{"a log that begins behind the snapshot", meta(5, 1, 0), string(saved()), meta(6, 1, 0), nil, 0, one, api.ErrBad},
		{"a log that begins behind the snapshot, and no id", meta(5, 1, 0), string(saved()), meta(6, 1, 0), nil, -1, one, api.ErrBad},
		{"a log that begins behind no snapshot", api.Meta{}, "", meta(1, 1, 0), cmds(1, 1, 3), 0, one, api.ErrBad},
		{"no id", api.Meta{}, "", api.Meta{}, nil, -1, one, api.ErrArg},
		{"an id that is too great", api.Meta{}, "", api.Meta{}, nil, 1 << 30, one, api.ErrArg},
		{"no voters", api.Meta{}, "", api.Meta{}, nil, 0, nil, api.ErrArg},
		{"too many voters", api.Meta{}, "", api.Meta{}, nil, 0, []int{0, 1, 2, 3, 4, 5, 6, 7}, api.ErrArg},
		{"voters that fall", api.Meta{}, "", api.Meta{}, nil, 0, []int{1, 0}, api.ErrArg},
		{"no voters, though a snapshot has some", meta(5, 1, 0), string(saved()), meta(5, 1, 0), nil, 0, nil, api.ErrArg},
		{"a snapshot without voters", api.Meta{Index: 5, Term: 1}, string(saved()), meta(5, 1, 0), nil, 0, one, api.ErrArg},
		{"a snapshot without voters, ahead of the log", api.Meta{Index: 5, Term: 1}, string(saved()), meta(2, 1, 0), nil, 0, one, api.ErrArg},
		{"an id, and a log that is to be cut", meta(5, 1, 0), string(saved()), meta(2, 1, 0), cmds(2, 1, 9), -1, one, api.ErrArg},
		{"a snapshot's Term is too great", meta(5, 1<<62+1, 0), string(saved()), meta(5, 1, 0), nil, 0, one, api.ErrArg},
		{"terms that fall", api.Meta{}, "", api.Meta{}, append(cmds(0, 2, 3), cmds(3, 1, 1)...), 0, one, api.ErrArg},
		{"a term below the snapshot's", meta(5, 7, 0), string(saved()), meta(5, 7, 0), cmds(5, 6, 1), 0, one, api.ErrArg},
		{"an EVoters that tells none", api.Meta{}, "", api.Meta{}, []api.Entry{{Index: 1, Term: 1, Kind: api.EVoters, Data: []byte("x")}}, 0, one, api.ErrArg},
	} {
		d := fresh(t)
		lay(t, d, c.shot, []byte(c.data), c.base, h, c.list...)
		ahead, ops := files(t, d), d.Ops()
		refuses(t, c.what, d, c.id, c.ids, c.wants)
		isText(t, c.what+": P5", files(t, d), ahead)
		if d.Ops() != ops {
			t.Errorf("%s: P5: it wrote", c.what)
		}
	}
}

// What stays of a log that a snapshot goes ahead of.
func TestP1601ASnapshotAboveTheLogs(t *testing.T) {
	data := saved(put("a", "snap"))
	log := append(cmds(2, 1, 4), cmds(6, 2, 4)...) // 3 to 6, 7 to 10
	for _, c := range []struct {
		what string
		shot api.Meta
		stay []api.Entry
	}{
		{"within the log", meta(5, 1, 0, 4), log[3:]},
		{"its last entry", meta(10, 2, 0, 4), nil},
		{"one behind it", meta(11, 2, 0, 4), nil},
		{"far behind it", meta(500, 2, 0, 4), nil},
		{"an entry of another term", meta(5, 2, 0, 4), nil},
		{"an entry of a term that is over", meta(8, 1, 0, 4), nil},
		{"the log's first", meta(3, 1, 0, 4), log[1:]},
	} {
		d := fresh(t)
		shot := meta(2, 1, 0, 1, 2)
		lay(t, d, shot, saved(), shot, api.Hard{Term: 4, Vote: 2, Commit: 2}, log...)
		is(t, "shots.Save", shots.Save(d, c.shot, data), api.OK)
		n := opened(t, d, 0, 0, 1, 2)
		isLog(t, c.what, d, c.shot, c.stay...)
		isText(t, c.what, all(n).text(), came{}.text())
		isText(t, c.what, fmt.Sprint(n.Hard(), n.Applied(), n.Voters(), kvs(n)), fmt.Sprint(api.Hard{Term: 4, Vote: 2, Commit: c.shot.Index}, c.shot.Index, []int{0, 4}, "1 0 [{Key:a Value:snap Create:1 Mod:1 Version:1 Lease:0}]"))
		last, term := c.shot.Index, c.shot.Term
		for _, e := range c.stay {
			last, term = e.Index, e.Term
		}
		all := app(4, 5, last, term, last)
		all.To = 0
		step(t, n, all)
		isText(t, c.what+": done behind it", entriesText(n.Done()), entriesText(c.stay))
	}
}

// Where the log begins at the snapshot nothing is cut, and what is committed behind it is done again.
func TestP1601ASnapshotAtTheLogs(t *testing.T) {
	d := fresh(t)
	shot := meta(4, 2, 0, 1)
	list := []api.Entry{first(5, 3), cmd(6, 3, put("b", "x")), cmd(7, 3, put("c", "y")), cmd(8, 3, put("d", "z"))}
	lay(t, d, shot, saved(put("a", "snap")), shot, api.Hard{Term: 3, Vote: 1, Commit: 7}, list...)
	ahead := files(t, d)
	n := opened(t, d, 0, 5, 6)
	isText(t, "the disk", files(t, d), ahead)
	isText(t, "what came", all(n).text(), came{done: list[:3]}.text())
	isText(t, "the node", fmt.Sprint(n.Hard(), n.Applied(), n.Voters(), kvs(n)), fmt.Sprint(api.Hard{Term: 3, Vote: 1, Commit: 7}, 7, []int{0, 1}, "3 0 [{Key:a Value:snap Create:1 Mod:1 Version:1 Lease:0} {Key:b Value:x Create:2 Mod:2 Version:1 Lease:0} {Key:c Value:y Create:3 Mod:3 Version:1 Lease:0}]"))
}

// The snapshot's Meta counts, not that of the log.
func TestP1601TheSnapshotsOwnMeta(t *testing.T) {
	d := fresh(t)
	lay(t, d, meta(4, 9, 0, 1), saved(), meta(4, 2, 5), api.Hard{Term: 3, Vote: 1})
	n := opened(t, d, 0, 0)
	isText(t, "the node", fmt.Sprint(n.Hard(), n.Voters()), fmt.Sprint(api.Hard{Term: 9, Vote: -1, Commit: 4}, []int{0, 1}))
	_, s, _ := wal.Open(d)
	if s.Hard != n.Hard() {
		t.Errorf("saved: %+v", s.Hard)
	}
}

// A log alone, without a snapshot, of which all, some and none is committed.
func TestP1601ALogAlone(t *testing.T) {
	for commit := range 6 {
		d := fresh(t)
		list := append([]api.Entry{first(1, 1)}, cmds(1, 1, 4)...)
		lay(t, d, api.Meta{}, nil, api.Meta{}, api.Hard{Term: 1, Vote: 0, Commit: commit}, list...)
		n := opened(t, d, 0, 0, 1)
		isText(t, "what came", all(n).text(), came{done: list[:min(commit, 5)]}.text())
		if n.Applied() != min(commit, 5) {
			t.Errorf("applied %d of %d", n.Applied(), commit)
		}
	}
}

// long is a disk whose opening has all operations that one may have: the log is cut, the term is saved, and so many entries are done that there is to be a snapshot.
func long(t *testing.T) *disk.Disk {
	d := fresh(t)
	lay(t, d, meta(2, 1, 0), saved(), meta(2, 1, 0), api.Hard{Term: 1, Vote: 0, Commit: 29}, cmds(2, 1, 28)...)
	is(t, "shots.Save", shots.Save(d, meta(5, 1, 0), saved(put("a", "b"))), api.OK)
	l, _, _ := wal.Open(d)
	is(t, "wal.Save", l.Save(nil, cmds(29, 4, 3)...), api.OK)
	return d
}

func TestP1601ADiskThatStopsWithinTheOpening(t *testing.T) {
	whole := long(t)
	ops := whole.Ops()
	want := shows(opened(t, whole, 0, 0))
	ops = whole.Ops() - ops
	cut := 5 // of them: Append, Sync, Rename, and the log's two files are taken away
	if ops != cut+2+3+4+2 {
		t.Fatalf("%d operations", ops)
	}
	for stop := 1; stop <= ops+1; stop++ {
		for pick := range 400 {
			d := long(t)
			d.Stop(stop)
			n, err := node.Open(d, 0, []int{0})
			what := fmt.Sprintf("stopped at %d", stop)
			switch {
			case stop <= cut:
				if n != nil {
					t.Fatalf("%s: a node", what)
				}
				is(t, what, err, api.ErrDead)
			case stop <= ops:
				is(t, what, err, api.OK)
				isDead(t, what, n)
			default:
				is(t, what, err, api.OK)
				isText(t, what, shows(n), want)
			}
			more := d.Crash(pick) > 0
			isText(t, what+", and opened again", shows(opened(t, d, 0, 0)), want)
			if !more {
				break
			}
		}
	}
}

// What was done within an opening that died is told still: it was done.
func TestP1602ANodeThatDiedWithinTheOpening(t *testing.T) {
	list := cmds(5, 1, 24)
	for stop, want := range map[int]came{6: {}, 7: {}, 8: {done: list}, 12: {done: list}, 16: {done: list}, 17: {done: list}} {
		d := long(t)
		d.Stop(stop)
		n, _ := node.Open(d, 0, []int{0})
		isText(t, fmt.Sprint("stopped at ", stop), all(n).text(), want.text())
		isText(t, "asked again", all(n).text(), came{}.text())
	}
}
