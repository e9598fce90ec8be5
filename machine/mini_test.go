package machine

import (
	"cmp"
	"maps"
	"math/rand"
	"slices"
	"strings"
	"testing"

	"horologe/api"
)

// mini is a machine with lesser limits, that does what is drawn: transactions, and leases that end.
type mini struct {
	*rand.Rand
	limits
	names []string
	kvs   map[string]api.KV
	rev   int
	clock int
}

func (m *mini) there() []string {
	var l []string
	for _, name := range m.names {
		if m.kvs[name].Version > 0 {
			l = append(l, name)
		}
	}
	return l
}

func (m *mini) rangeOf(lo, hi string, limit int) api.Result {
	var r api.Result
	for _, name := range m.there() {
		if name < lo || name > hi {
			continue
		}
		if r.N++; limit == 0 || len(r.KVs) < limit {
			r.KVs = append(r.KVs, m.kvs[name])
		}
	}
	return r
}

// txn does a transaction that is drawn: ErrFull, if it would put one key too many (nothing is done then).
func (m *mini) txn() api.Reply {
	was := maps.Clone(m.kvs)
	puts, gone := map[string]int{}, map[string]int{}
	var results []api.Result
	for n := 1 + m.Intn(m.ops); n > 0; n-- {
		lo, hi := m.names[m.Intn(len(m.names))], m.names[m.Intn(len(m.names))]
		lo, hi = min(lo, hi), max(lo, hi)
		switch k := m.Intn(6); {
		case k < 3 && puts[lo]+gone[lo] == 0:
			kv := m.kvs[lo]
			results = append(results, api.Result{N: min(1, kv.Version)})
			if kv.Version == 0 {
				if len(m.there()) == m.room {
					m.kvs = was
					return api.Reply{Err: api.ErrFull}
				}
				kv = api.KV{Key: lo, Value: "v", Create: m.rev + 1}
			}
			kv.Mod, kv.Version, kv.Lease = m.rev+1, kv.Version+1, max(0, m.Intn(5)-2)
			m.kvs[lo] = kv
			puts[lo]++
		case k == 3:
			if m.Intn(2) == 0 {
				hi = lo
			}
			if slices.ContainsFunc(m.names, func(s string) bool { return s >= lo && s <= hi && puts[s] > 0 }) {
				continue
			}
			r := m.rangeOf(lo, hi, 0)
			for _, name := range m.names {
				if name >= lo && name <= hi {
					delete(m.kvs, name)
					gone[name]++
				}
			}
			results = append(results, api.Result{N: r.N})
		default:
			results = append(results, m.rangeOf(lo, hi, m.Intn(4)))
		}
	}
	if !maps.Equal(was, m.kvs) {
		m.rev++
	}
	return api.Reply{Results: results}
}

// end lets leases end: one of them, or, from the second minute on, several.
func (m *mini) end() api.Reply {
	ends := []int{1 + m.Intn(2)}
	if m.clock > 0 && m.Intn(2) == 0 {
		ends = []int{1, 2}
	}
	n := len(m.kvs)
	for name, kv := range m.kvs {
		if slices.Contains(ends, kv.Lease) {
			delete(m.kvs, name)
		}
	}
	if len(m.kvs) < n {
		m.rev++
	}
	return api.Reply{}
}

// base tells what is there.
func (m *mini) base() []api.KV {
	var l []api.KV
	for _, name := range m.there() {
		l = append(l, m.kvs[name])
	}
	return l
}

// TestP1203WhatLesserMachinesLeaveIsTaken: with all kinds of limits, so that they are reached all the time; with leases, and with no room.
func TestP1203WhatLesserMachinesLeaveIsTaken(t *testing.T) {
	for seed := range int64(4000) {
		r := rand.New(rand.NewSource(120300000 + seed))
		m := &mini{Rand: r, limits: limits{1 + r.Intn(5), 1 + r.Intn(12)}, names: strings.Split("abcdefghijkl", "")[:2+r.Intn(11)], kvs: map[string]api.KV{}}
		replies := make([]api.Reply, 1+r.Intn(6))
		ends := r.Intn(3)
		for range 3 + r.Intn(25) {
			do := m.txn
			if r.Intn(6) < ends {
				do = m.end
			}
			reply := do()
			reply.Rev, reply.Time = m.rev, m.clock
			if r.Intn(3) > 0 {
				replies[r.Intn(len(replies))] = reply
			}
			m.clock += r.Intn(4) / 3
			if m.rev == 0 {
				continue
			}
			all := slices.Clone(replies)
			slices.SortStableFunc(all, func(a, b api.Reply) int { return cmp.Or(cmp.Compare(a.Rev, b.Rev), cmp.Compare(a.Time, b.Time)) })
			if !couldBeCompacted(m.limits, m.rev, m.clock, m.base(), all) {
				t.Fatalf("seed %d: refused: %+v, at %d, clock %d: %+v\n%+v", seed, m.limits, m.rev, m.clock, m.base(), all)
			}
		}
	}
}
