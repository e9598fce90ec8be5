package machine

import (
	"slices"
	"testing"

	"horologe/api"
	"horologe/folk"
	"horologe/mvcc"
	"horologe/pen"
)

// small is all machines that a few commands make, by their bytes.
type small map[string]int

// made does commands, of nobody and of so many clients (one call each), in all orders, up to revision and clock bounds. What is made must be taken.
func made(t *testing.T, free, called []api.Cmd, clients, revs, clock int) small {
	all, queue := small{}, [][]byte{New().Save()}
	for len(queue) > 0 {
		b := queue[0]
		queue = queue[1:]
		m, err := Load(b)
		if err != api.OK {
			t.Fatalf("%x was made, but not taken", b)
		}
		cmds := free
		if n := len(m.calls.All()); n < clients {
			cmds = slices.Clone(free)
			for _, c := range called {
				c.Client, c.Seq = n+1, 1
				cmds = append(cmds, c)
			}
		}
		for _, c := range cmds {
			x, _ := Load(b)
			x.Apply(c)
			next := x.Save()
			if x.store.Rev() > revs || x.clock > clock || all[string(next)] > 0 {
				continue
			}
			all[string(next)]++
			queue = append(queue, next)
		}
	}
	return all
}

// txnsOf tells all transactions of one operation, up to most, out of these.
func txnsOf(most int, ops ...api.Op) []api.Cmd {
	var all []api.Cmd
	lists := [][]api.Op{nil}
	for range most {
		var longer [][]api.Op
		for _, l := range lists {
			for _, op := range ops {
				longer = append(longer, append(slices.Clone(l), op))
			}
		}
		for _, l := range longer {
			all = append(all, api.Cmd{Txn: api.Txn{Then: l}})
		}
		lists = longer
	}
	return all
}

// stores tells all stores of these machines that have no other key than a.
func (all small) stores() []string {
	found := map[string]int{}
	var l []string
	for b := range all {
		_, size, _ := pen.Unframe([]byte(b))
		s, _ := mvcc.Load([]byte(b)[size:])
		events, _ := s.Since(s.Compacted() + 1)
		for _, kv := range keysAt(s, s.Compacted()) {
			events = append(events, api.Event{KV: kv})
		}
		if found[b[size:]]++; found[b[size:]] == 1 && !slices.ContainsFunc(events, func(e api.Event) bool { return e.KV.Key != "a" }) {
			l = append(l, b[size:])
		}
	}
	slices.Sort(l)
	return l
}

// repliesAt tells replies of transactions with so many results at most, of a alone, that were answered up to a revision and a time.
func repliesAt(rev, time, most int) []api.Reply {
	results := []api.Result{{}, {N: 1}}
	for create := 1; create <= rev; create++ {
		for mod := create; mod <= rev; mod++ {
			for version := 1; version <= rev; version++ {
				results = append(results, api.Result{N: 1, KVs: []api.KV{{Key: "a", Create: create, Mod: mod, Version: version}}})
			}
		}
	}
	lists := [][]api.Result{nil}
	for from := 0; most > 0; most-- {
		for _, l := range lists[from:] {
			for _, r := range results {
				lists = append(lists, append(slices.Clone(l), r))
			}
			from++
		}
	}
	var all []api.Reply
	for at := range rev + 1 {
		for now := range time + 1 {
			for _, l := range lists {
				all = append(all, api.Reply{Rev: at, Then: true, Time: now, Results: l})
			}
		}
	}
	return all
}

var (
	putA, putY, putZ = api.Op{Key: "a"}, api.Op{Key: "y"}, api.Op{Key: "z"}
	delA, delY, delZ = api.Op{Kind: api.ODelete, Key: "a"}, api.Op{Kind: api.ODelete, Key: "y"}, api.Op{Kind: api.ODelete, Key: "z"}
	getA, getQ       = api.Op{Kind: api.ORange, Key: "a"}, api.Op{Kind: api.ORange, Key: "q"}
)

// nobodys tells commands that make all that is to be told of a, and, where it is forgotten, of what was beside it.
func nobodys() []api.Cmd {
	all := txnsOf(1, putA, delA, putZ, delZ)
	for _, l := range [][]api.Op{{putA, putZ}, {putA, delZ}, {delA, putZ}, {delA, delZ}, {putA, putY, putZ}, {putY, putZ}} {
		all = append(all, api.Cmd{Txn: api.Txn{Then: l}})
	}
	for rev := 1; rev <= 3; rev++ {
		all = append(all, api.Cmd{Kind: api.CCompact, Rev: rev})
	}
	return all
}

// TestP1203SmallMachinesOfOneClient: of all machines that have key a alone, few revisions, and a reply of up to two results, those are taken that commands make, and no others.
func TestP1203SmallMachinesOfOneClient(t *testing.T) {
	called := append(txnsOf(2, putA, delA, getA, getQ, putZ, delY, delZ), api.Cmd{})
	isExact(t, made(t, nobodys(), called, 1, 2, 0), 1, 0, 2)
}

// TestP1203SmallMachinesOfTwoClients does so of two clients, with one result each; and of fewer revisions, with a clock.
func TestP1203SmallMachinesOfTwoClients(t *testing.T) {
	called := append(txnsOf(1, putA, delA, getA, getQ, putZ, delZ), api.Cmd{})
	isExact(t, made(t, nobodys(), called, 2, 2, 0), 2, 0, 1)
	isExact(t, made(t, append(nobodys(), api.Cmd{Kind: api.CClock, Time: 1}), called, 2, 1, 1), 2, 1, 1)
}

// isExact tries all bytes of such machines, with replies of so many results at most.
func isExact(t *testing.T, all small, clients, clock, most int) {
	t.Helper()
	tried, taken := 0, 0
	for _, s := range all.stores() {
		store, _ := mvcc.Load([]byte(s))
		replies := repliesAt(store.Rev(), clock, most)
		for i := range replies {
			for j := range replies {
				if clients == 1 && j > 0 {
					break
				}
				for now := range clock + 1 {
					rows := []folk.Row{rowOf(1, 1, replies[i]), rowOf(2, 1, replies[j])}
					b := string(pen.Frame(parts{clock: now, rows: rows[:clients]}.body())) + s
					turned := string(pen.Frame(parts{clock: now, rows: []folk.Row{rowOf(1, 1, replies[j]), rowOf(2, 1, replies[i])}}.body())) + s
					_, err := Load([]byte(b))
					want := all[b] > 0 || clients == 2 && all[turned] > 0 // client 1 is the first one that calls
					if tried++; (err == api.OK) != want {
						t.Fatalf("taken: %v, made: %v: clock %d, %+v, at %d of %d: %+v", err == api.OK, want, now, rows[:clients], store.Compacted(), store.Rev(), keysAt(store, store.Compacted()))
					}
					if err == api.OK {
						taken++
					}
				}
			}
		}
	}
	if taken == 0 || taken == tried {
		t.Errorf("%d of %d were taken", taken, tried)
	}
	t.Logf("%d made, %d tried, %d taken", len(all), tried, taken)
}
