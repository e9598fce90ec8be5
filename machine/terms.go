package machine

import (
	"slices"

	"horologe/api"
	"horologe/lease"
)

const (
	maxLease  = 1<<31 - 1
	maxLeases = 1024
)

// terms is what is known of leases and of the clock at a moment of a machine's past.
type terms struct {
	leases []lease.Lease // that are there at the end
	clock  int           // at the end
	now    int           // the clock is there, at least
	alive  map[int]int   // of leases that were not over yet when the clock was, at least, there
}

func newTerms(leases []lease.Lease, clock int) terms {
	return terms{leases: leases, clock: clock, alive: map[int]int{}}
}

// end lets leases end with all their keys, as CRevoke and CExpire do, if that can have made these changes.
func (t *terms) end(s *scene, events []api.Event) bool {
	gone := map[int]int{}
	for i, e := range events {
		if !e.Del || i > 0 && events[i-1].KV.Key > e.KV.Key {
			return false
		}
		gone[s.kvs[e.KV.Key].Lease]++
	}
	for id, n := range gone {
		if s.users[id] != n { // lease 0 has no users
			return false
		}
	}
	if len(gone) > 1 && !t.expire(s, gone) {
		return false
	}
	for id := range gone {
		t.alive[id] = t.now
	}
	for _, l := range t.leases { // one that ended, and is there, was granted again
		if gone[l.Id] > 0 && since(l) < t.now {
			return false
		}
	}
	return true
}

// expire lets the clock go on till these leases can be over, and tells whether all others can be there still.
func (t *terms) expire(s *scene, gone map[int]int) bool {
	for id := range gone {
		t.now = max(t.now, t.alive[id]+1)
	}
	for id := range s.users {
		if gone[id] == 0 {
			t.alive[id] = t.now
		}
	}
	return !slices.ContainsFunc(t.leases, func(l lease.Lease) bool { return l.Until <= t.now })
}

// hold tells whether all leases that keys had, and that these changes name, can have been there together, with those that are there since.
func (t *terms) hold(s *scene, events []api.Event) bool {
	var named []int
	for _, e := range events {
		if e.KV.Lease > maxLease {
			return false
		}
		if e.KV.Lease > 0 && s.users[e.KV.Lease] == 0 {
			named = append(named, e.KV.Lease)
		}
	}
	if len(s.users)+len(named)+len(t.leases) <= maxLeases {
		return true
	}
	for _, l := range t.leases {
		if since(l) < t.now && s.users[l.Id] == 0 {
			named = append(named, l.Id)
		}
	}
	slices.Sort(named)
	return len(s.users)+len(slices.Compact(named)) <= maxLeases
}
