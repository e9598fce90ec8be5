package node_test

import (
	"fmt"
	"slices"
	"strings"
	"testing"

	"horologe/api"
	"horologe/disk"
	"horologe/node"
)

// story is a list of calls of node 1, and how it begins. Each of them answers an error or none.
type story struct {
	what  string
	begin func(t *testing.T) (*disk.Disk, *node.Node)
	calls []func(n *node.Node) api.Errno
}

func tick(n *node.Node) api.Errno { return n.Tick(0) }

func stepping(m api.Msg) func(n *node.Node) api.Errno {
	return func(n *node.Node) api.Errno { return n.Step(m) }
}

func proposing(c api.Cmd) func(n *node.Node) api.Errno {
	return func(n *node.Node) api.Errno { return third(n.Propose(c)) }
}

func changing(ids ...int) func(n *node.Node) api.Errno {
	return func(n *node.Node) api.Errno { return n.Change(ids...) }
}

func reading(ctx int) func(n *node.Node) api.Errno {
	return func(n *node.Node) api.Errno { return n.Read(ctx) }
}

// begun is a way for a story to begin: a new node 1.
func begun(ids ...int) func(t *testing.T) (*disk.Disk, *node.Node) {
	return func(t *testing.T) (*disk.Disk, *node.Node) {
		d := fresh(t)
		return d, opened(t, d, 1, ids...)
	}
}

// stories: of one that is alone, that leads, that follows.
func stories() []story {
	one := story{what: "alone", begin: begun(1)}
	for range 10 {
		one.calls = append(one.calls, tick)
	}
	for i, c := range puts(24) {
		one.calls = append(one.calls, proposing(c))
		if i%6 == 0 {
			one.calls = append(one.calls, reading(i))
		}
	}
	one.calls = append(one.calls, changing(1, 2), stepping(has(2, 1, 26)), proposing(put("a", "b")))

	led := story{what: "leads", begin: begun(0, 1, 2)}
	for range 10 {
		led.calls = append(led.calls, tick)
	}
	led.calls = append(led.calls, stepping(granted(0, 1)), reading(1), stepping(has(0, 1, 1)), changing(0, 1), stepping(has(0, 1, 2)))
	for i, c := range puts(21) {
		led.calls = append(led.calls, proposing(c))
		if i%4 == 3 {
			led.calls = append(led.calls, stepping(has(0, 1, i)))
		}
	}
	led.calls = append(led.calls, stepping(has(0, 1, 23)), stepping(app(0, 2, 20, 1, 23)), tick)

	behind := story{what: "follows", begin: begun(0, 1, 2)}
	behind.calls = []func(n *node.Node) api.Errno{
		stepping(api.Msg{Kind: api.MVote, From: 2, To: 1, Term: 1}),
		stepping(app(2, 1, 0, 0, 0, cmds(0, 1, 6)...)),
		stepping(app(2, 1, 4, 1, 3, cmds(4, 1, 4)...)),
		stepping(app(0, 3, 5, 1, 4, cmds(5, 2, 8)...)),
		stepping(app(0, 3, 13, 2, 13, cmds(13, 3, 8)...)),
		stepping(api.Msg{Kind: api.MVote, From: 2, To: 1, Term: 4, Index: 40, LogTerm: 3}),
		stepping(app(2, 4, 21, 3, 21, voters(22, 4, 0, 1))),
		stepping(app(2, 4, 22, 4, 22, cmds(22, 4, 3)...)),
		stepping(snap(2, 4, meta(24, 4, 0, 1, 2), saved(put("s", "1"), put("s", "2")))),
		stepping(app(2, 4, 25, 4, 25)),
		stepping(snap(2, 4, meta(50, 4, 0, 1), saved(put("s", "1"), put("t", "2")))),
		stepping(app(2, 4, 50, 4, 60, cmds(50, 4, 30)...)),
		stepping(app(2, 4, 80, 4, 71)),
		tick,
	}
	return []story{one, led, behind}
}

// run does a story's calls up to one, and drains the node.
func (s story) run(t *testing.T, upTo int) (*disk.Disk, *node.Node) {
	t.Helper()
	d, n := s.begin(t)
	for _, call := range s.calls[:upTo] {
		if err := call(n); err != api.OK && err != api.ErrReady {
			t.Fatalf("%s: %v", s.what, err)
		}
	}
	return d, n
}

// The disk stops at each operation of each call: that call answers ErrDead, and so do all behind it; what came ahead of it is told still.
func TestP1602TheDiskStopsAtEachOperation(t *testing.T) {
	for _, s := range stories() {
		ops := 0
		for i, call := range s.calls {
			for stop := 1; ; stop++ {
				d, n := s.run(t, i)
				_, twin := s.run(t, i)
				d.Stop(stop)
				err := call(n)
				if !n.Dead() {
					ops += stop - 1
					break
				}
				what := fmt.Sprintf("%s: call %d, stopped at %d", s.what, i, stop)
				is(t, what, err, api.ErrDead)
				isDead(t, what, n)
				ahead := all(twin)
				got := all(n)
				if !isFront(ahead, got) {
					t.Fatalf("%s: it tells\n%s\nahead of it there was\n%s", what, got.text(), ahead.text())
				}
				isText(t, what, all(n).text(), came{}.text())
				isDead(t, what, n)
				if stop > 40 {
					t.Fatalf("%s: too many operations", what)
				}
			}
		}
		if ops < 50 {
			t.Errorf("%s: %d operations", s.what, ops)
		}
	}
}

// isFront tells whether all that came ahead came later, too, and first.
func isFront(ahead, later came) bool {
	if len(ahead.out) > len(later.out) || len(ahead.answers) > len(later.answers) || len(ahead.reads) > len(later.reads) || len(ahead.done) > len(later.done) {
		return false
	}
	later.out, later.answers, later.reads, later.done = later.out[:len(ahead.out)], later.answers[:len(ahead.answers)], later.reads[:len(ahead.reads)], later.done[:len(ahead.done)]
	return ahead.text() == later.text()
}

// What is to be sent and answered behind the disk's error is lost; where only the snapshot fails, all was sent and done ahead of it.
func TestP1602WhatIsLost(t *testing.T) {
	for stop := 1; stop <= 10; stop++ {
		d, n := alone(t)
		proposes(t, n, puts(18)...)
		all(n)
		d.Stop(stop)
		index, term, err := n.Propose(put("last", "one"))
		want := came{answers: []node.Answer{{20, 1, ok(19)}}, done: []api.Entry{cmd(20, 1, put("last", "one"))}}
		switch {
		case stop <= 2:
			want = came{}
			fallthrough
		case stop <= 9: // shots.Save has three operations, Cut as many, and it takes the elder file away; Trim has nothing to do
			isText(t, "Propose", fmt.Sprint(index, term, err), "0 0 dead")
			isDead(t, "in the end", n)
		default:
			isText(t, "Propose", fmt.Sprint(index, term, err), "20 1 ok")
		}
		if stop > 9 != !n.Dead() {
			t.Errorf("stopped at %d: dead %v", stop, n.Dead())
		}
		isText(t, fmt.Sprint("stopped at ", stop), all(n).text(), want.text())
	}
}

// A disk without room is a disk's error, too.
func TestP1602NoRoom(t *testing.T) {
	for room := 0; room < 20000; room += 7 {
		d, _ := disk.New(room)
		n, err := node.Open(d, 0, []int{0})
		is(t, "Open", err, api.OK)
		for i := range 60 {
			call := func() api.Errno { return n.Tick(0) }
			if i >= 10 {
				call = func() api.Errno { return third(n.Propose(put(fmt.Sprint("k", i%4), fmt.Sprint(i)))) }
			}
			was := n.Dead()
			if err := call(); (err == api.ErrDead) != n.Dead() || was && !n.Dead() || err != api.OK && err != api.ErrDead {
				t.Fatalf("%d bytes of room: %v", room, err)
			}
		}
		if !n.Dead() {
			if room < 1000 {
				t.Errorf("%d bytes are enough", room)
			}
			return
		}
		isDead(t, "no room", n)
	}
	t.Error("no room is enough")
}

// Where a snapshot, or the log behind it, has no room, the node dies; where it lives, both are there. Dead, it comes back where there is more room.
func TestP1602NoRoomForASnapshot(t *testing.T) {
	wide := func(c string) api.Cmd { return put("a", strings.Repeat(c, 900)) }
	list := slices.Repeat([]api.Cmd{wide("v")}, 18)
	log := []api.Entry{first(1, 1)}
	for i, c := range list {
		log = append(log, cmd(i+2, 1, c))
	}
	follows := func(n *node.Node) { n.Step(app(0, 1, 0, 0, 0, log...)) }
	came := saved(wide("c"))
	for _, c := range []struct {
		what  string
		ids   []int
		ahead func(n *node.Node)
		call  func(n *node.Node) api.Errno
		meta  api.Meta
		data  []byte
		stay  []api.Entry
	}{
		{"its own", []int{1}, func(n *node.Node) { leads(t, n); proposes(t, n, list...) }, proposing(wide("l")), meta(20, 1, 1), saved(append(list, wide("l"))...), nil},
		{"one that came", []int{0, 1}, follows, stepping(snap(0, 1, meta(18, 1, 0, 1), came)), meta(18, 1, 0, 1), came, log[18:]},
		{"one that came, behind all", []int{0, 1}, follows, stepping(snap(0, 1, meta(99, 1, 0, 1), came)), meta(99, 1, 0, 1), came, nil},
	} {
		d := fresh(t)
		c.ahead(opened(t, d, 1, c.ids...))
		least, died := d.Used(), 0
		for more, lived := 0, 0; lived < 20; more += 23 {
			d, _ := disk.New(least + more)
			n := opened(t, d, 1, c.ids...)
			c.ahead(n)
			what := fmt.Sprintf("%s, %d bytes of room", c.what, more)
			err := c.call(n)
			if !n.Dead() {
				lived++
				is(t, what, err, api.OK)
				isSnapshot(t, what, d, c.meta, c.data, c.stay...)
				continue
			}
			died++
			is(t, what, err, api.ErrDead)
			again := opened(t, copied(t, d, 1<<20), 1, c.ids...)
			if applied := again.Applied(); applied != 0 && applied != c.meta.Index-1 && applied != c.meta.Index {
				t.Fatalf("%s: opened again, it has applied %d", what, applied)
			}
		}
		if died < 20 {
			t.Errorf("%s: it died %d times", c.what, died)
		}
	}
}

// A node that is not of Open is a dead one.
func TestP1ANodeThatIsNotOfOpen(t *testing.T) {
	var n node.Node
	isDead(t, "no node", &n)
	isText(t, "what came", all(&n).text(), came{}.text())
	isDead(t, "no node", new(node.Node))
}

func TestP7ADeadNodesStoreIsNobodyElses(t *testing.T) {
	var n node.Node
	s := n.Store()
	s.Write().Put("a", "b", 0)
	w := s.Write()
	w.Put("a", "b", 0)
	w.Done()
	isDead(t, "a store was written to", &n)
}
