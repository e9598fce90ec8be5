package machine

import (
	"slices"

	"horologe/api"
)

// runs tells, of each change of a revision, how many from it on one ODelete can have made: of a put none; deletions, as long as no other key that is there, and none that the revision puts, lies between them.
func (s *scene) runs(events []api.Event) []int {
	var puts []string
	for _, e := range events {
		if !e.Del {
			puts = append(puts, e.KV.Key)
		}
	}
	slices.Sort(puts)
	keys, goesOn := slices.Clone(s.keys), make([]bool, len(events))
	for i, e := range events {
		if !e.Del {
			continue
		}
		at, _ := slices.BinarySearch(keys, e.KV.Key)
		if i+1 < len(events) && events[i+1].Del && at+1 < len(keys) {
			next := events[i+1].KV.Key
			goesOn[i] = keys[at+1] == next && !liesBetween(puts, e.KV.Key, next)
		}
		keys = slices.Delete(keys, at, at+1)
	}
	lengths := make([]int, len(events))
	for i := len(events) - 1; i >= 0; i-- {
		if events[i].Del {
			lengths[i] = 1
		}
		if goesOn[i] {
			lengths[i] += lengths[i+1]
		}
	}
	return lengths
}

// liesBetween tells whether one of some keys, which rise, lies between two others.
func liesBetween(keys []string, lo, hi string) bool {
	at, _ := slices.BinarySearch(keys, lo)
	return at < len(keys) && keys[at] < hi
}

// opsOf tells how many operations a transaction needs, at least, for changes with these runs.
func opsOf(runs []int) int {
	n := 0
	for i := 0; i < len(runs); i += max(runs[i], 1) {
		n++
	}
	return n
}

// couldMake tells whether a transaction's operations can have made just these changes, with these runs, and be answered so.
func (s *scene) couldMake(events []api.Event, runs []int, results []api.Result) bool {
	s = s.clone()
	done := make([]uint64, len(events)+1) // of so many changes: bit n is set, if the first n operations can have made them
	done[0] = 1
	for i := range done {
		for n, r := range results {
			if done[i]>>n&1 == 0 {
				continue
			}
			next := uint64(1) << (n + 1)
			if s.tells(r) {
				done[i] |= next
			}
			if i < len(events) && s.changes(events[i], runs[i], r) {
				done[i+max(r.N, 1)] |= next
			}
		}
		if i < len(events) {
			s.do(events[i])
		}
	}
	return done[len(events)]>>len(results)&1 == 1
}

// changes tells whether a put that is next, or the next deletions of a run, can be answered so.
func (s *scene) changes(e api.Event, run int, r api.Result) bool {
	if len(r.KVs) > 0 {
		return false
	}
	if e.Del {
		return r.N >= 1 && r.N <= run
	}
	_, there := s.kvs[e.KV.Key]
	return there && r.N == 1 || !there && r.N == 0
}
