package node_test

import (
	"fmt"
	"strings"
	"testing"

	"horologe/api"
	"horologe/disk"
	"horologe/node"
	"horologe/raft"
	"horologe/wal"
)

// fronts are the disks that a crash may leave, one for each number of loose bytes that stay.
func fronts(t *testing.T, stopped func() *disk.Disk) []*disk.Disk {
	t.Helper()
	none, whole := stopped(), stopped()
	used := none.Used()
	if none.Crash(0) > 1 {
		t.Fatal("bytes of two files are loose")
	}
	loose := used - none.Used()
	whole.Crash(loose)
	if whole.Used() != used {
		t.Fatal("not all bytes stay")
	}
	list := []*disk.Disk{none}
	for stay := 1; stay <= loose; stay++ {
		list = append(list, between(t, none, whole, stay))
	}
	return list
}

// between is a disk like one of two, of which the other one has a file that is longer: so many of its bytes more.
func between(t *testing.T, less, more *disk.Disk, stay int) *disk.Disk {
	t.Helper()
	d := fresh(t)
	names, _ := more.List()
	for _, name := range names {
		b, _ := more.Read(name)
		short, err := less.Read(name)
		is(t, "Read", err, api.OK)
		if !strings.HasPrefix(string(b), string(short)) {
			t.Fatal("no front of a file")
		}
		if len(short) < len(b) {
			b = b[:len(short)+stay]
		}
		is(t, "Append", d.Append(name, b), api.OK)
		is(t, "Sync", d.Sync(name), api.OK)
	}
	return d
}

func stateOf(t *testing.T, d *disk.Disk) wal.State {
	t.Helper()
	_, s, err := wal.Open(d)
	is(t, "wal.Open", err, api.OK)
	return s
}

// hasEntry tells whether a log has an entry, or begins behind it.
func hasEntry(s wal.State, e api.Entry) bool {
	at := e.Index - s.Meta.Index
	return at < 1 || at <= len(s.Entries) && entryText(s.Entries[at-1]) == entryText(e)
}

// keeps asks a log for all that another one has: the term, the vote in it, how far is committed, the entries, but those that were to go.
func keeps(t *testing.T, what string, s, had, becomes wal.State) {
	t.Helper()
	if s.Hard.Term < had.Hard.Term || s.Hard.Term == had.Hard.Term && had.Hard.Vote >= 0 && s.Hard.Vote != had.Hard.Vote || s.Hard.Commit < had.Hard.Commit || s.Meta.Index < had.Meta.Index {
		t.Fatalf("%s: %s\nkeeps not %s", what, stateText(s), stateText(had))
	}
	for _, e := range had.Entries {
		if !hasEntry(s, e) && hasEntry(becomes, e) {
			t.Fatalf("%s: %s\nlacks %s", what, stateText(s), entryText(e))
		}
	}
}

// doneUpTo is how far a node has said it has done entries.
func doneUpTo(list ...came) int {
	upTo := 0
	for _, c := range list {
		for _, e := range c.done {
			upTo = max(upTo, e.Index)
		}
	}
	return upTo
}

// machines are a story's: what was saved of them, by what was applied then.
func machines(t *testing.T, s story) map[int]string {
	_, n := s.begin(t)
	list := map[int]string{0: string(n.Save())}
	for _, call := range s.calls {
		call(n)
		list[n.Applied()] = string(n.Save())
	}
	return list
}

// A crash at each operation of each call, of which each number of bytes may stay: opened again, the node has its term, its vote, its entries, and what it said it did.
func TestP1605CrashesAtEachOperation(t *testing.T) {
	for _, s := range stories() {
		t.Run(s.what, func(t *testing.T) {
			t.Parallel()
			known := machines(t, s)
			for i, call := range s.calls {
				d, n := s.run(t, i)
				before := stateOf(t, d)
				call(n)
				after := stateOf(t, d)
				for stop, dead := 1, true; dead; stop++ {
					var got came
					stopped := func() *disk.Disk {
						d, n := s.run(t, i)
						d.Stop(stop)
						call(n)
						dead, got = n.Dead(), all(n)
						return d
					}
					for stay, d := range fronts(t, stopped) {
						what := fmt.Sprintf("call %d, stopped at %d, %d bytes stay", i, stop, stay)
						again, err := node.Open(d, 1, []int{0, 1, 2})
						if err != api.OK || again.Dead() {
							t.Fatalf("%s: %v", what, err)
						}
						now := stateOf(t, d)
						keeps(t, what, now, before, after)
						if len(got.out) > 0 && !dead {
							keeps(t, what+": it was said", now, after, after)
						}
						if again.Applied() < doneUpTo(got) {
							t.Fatalf("%s: applied %d, though it said %d", what, again.Applied(), doneUpTo(got))
						}
						if m, is := known[again.Applied()]; is {
							isText(t, what+": the machine", fmt.Sprintf("%q", again.Save()), fmt.Sprintf("%q", m))
						}
						if again.Hard() != now.Hard {
							t.Fatalf("%s: %+v, saved %+v", what, again.Hard(), now.Hard)
						}
					}
				}
			}
		})
	}
}

// What was said is there, whatever call comes behind it: each message, each answer of a story that goes on behind crashes.
func TestP1605DrawnCrashes(t *testing.T) {
	t.Parallel()
	crashes := 0
	for seed := range int64(400) {
		x := newDrawn(t, seed)
		said := map[int]int{} // by terms, for whom it voted
		term, upTo := 0, 0
		for range 150 {
			a := x.draw()
			before := stateOf(t, x.d)
			if x.r.Intn(2) == 0 {
				x.d.Stop(1 + x.r.Intn(3)*x.r.Intn(6))
			}
			a.do(x.n)
			c := all(x.n)
			upTo = max(upTo, doneUpTo(c))
			for _, m := range c.out {
				term = max(term, m.Term)
				voted := m.Kind == api.MVote
				if voted || m.Kind == api.MVoteReply && m.OK {
					vote := m.To
					if voted {
						vote = 1
					}
					if v, is := said[m.Term]; is && v != vote {
						t.Fatalf("seed %d: two votes in term %d: %d, %d", seed, m.Term, v, vote)
					}
					said[m.Term] = vote
				}
			}
			if !x.n.Dead() {
				x.d.Stop(0)
				now := stateOf(t, x.d)
				for _, m := range c.out {
					if m.Kind == api.MAppReply && m.OK && m.Match > last(now) {
						t.Fatalf("seed %d: it said it has %d: %s", seed, m.Match, stateText(now))
					}
				}
				continue
			}
			crashes++
			x.d.Crash(x.r.Intn(300), x.r.Intn(300))
			x.n = opened(t, x.d, 1, 0, 1, 2)
			all(x.n)
			now := stateOf(t, x.d)
			if now.Hard.Term < term || now.Hard.Term < before.Hard.Term || x.n.Applied() < upTo {
				t.Fatalf("seed %d: %s; it said term %d, applied %d", seed, stateText(now), term, upTo)
			}
			if v, is := said[now.Hard.Term]; is && v != now.Hard.Vote {
				t.Fatalf("seed %d: %+v; it voted for %d", seed, now.Hard, v)
			}
		}
	}
	if crashes < 2000 {
		t.Errorf("%d crashes", crashes)
	}
}

// A node alone that crashes again and again, also while it is opened, keeps all that it answered.
func TestP1605WhatWasAnsweredStays(t *testing.T) {
	for seed := range 40 {
		d := fresh(t)
		answered, proposed := map[string]string{}, 0
		for life := range 30 {
			d.Stop((seed*7+life*5)%33 + 1)
			n, err := node.Open(d, 0, []int{0})
			if err == api.OK {
				for range 25 {
					if n.Role() != raft.Leader {
						n.Tick(0)
						continue
					}
					proposed++
					key, value := fmt.Sprint("k", proposed%6), fmt.Sprint(proposed)
					index, _, _ := n.Propose(put(key, value))
					for _, a := range n.Answers() {
						if index == 0 || a.Index == index {
							answered[key] = value
						}
					}
				}
			}
			d.Crash(seed+life*3, life)
			n = opened(t, d, 0, 0)
			for key, value := range answered {
				list, _, _ := n.Store().Range(key, "", 0, 0)
				if len(list) != 1 || len(list[0].Value) < len(value) || len(list[0].Value) == len(value) && list[0].Value < value {
					t.Fatalf("seed %d, life %d: %s is %+v, answered %s", seed, life, key, list, value)
				}
			}
		}
		if len(answered) < 6 {
			t.Errorf("seed %d: %d answers", seed, len(answered))
		}
	}
}
