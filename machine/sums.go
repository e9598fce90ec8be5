package machine

import (
	"cmp"
	"slices"
)

// sums is what is counted together of all that is known.
type sums struct {
	ended   []task // by which revisions lives ended, and how many by which
	deleted []task // how many operations, at least, must have deleted what went by one revision
	within  []task // and by one or the other of some
	needs   []need // how many keys of which nothing is told there were
	last    int    // from when on one of these must have gone by an operation of its own (0: none must)
	stayed  []span // when a life that is taken to have gone on may have been put
}

// mostWindows is how many of them are tried to count deletions.
const mostWindows = 256

// sum counts all that is known.
func (o *old) sum() {
	times := map[task]int{}
	for _, x := range o.all {
		if x.ended() {
			times[task{gone, 1, x.since, x.by, 1}]++
		}
	}
	o.ended, o.deleted, o.within = tasksOf(times), nil, nil
	for _, t := range o.windowsOf() {
		if t.n = len(o.groups(t.from, t.to, t.from == t.to && !o.mayEndLeases(t.from))); t.n == 0 {
			continue
		}
		if t.from == t.to {
			o.deleted = append(o.deleted, t)
		} else {
			o.within = append(o.within, t)
		}
	}
	o.needs, o.last = o.hidden()
}

// windowsOf tells all revisions from one on by which something can have gone, up to one by which something has: the fewest first.
func (o *old) windowsOf() []task {
	var ends []int
	for _, t := range o.ended {
		ends = append(ends, t.to)
	}
	slices.Sort(ends)
	ends = slices.Compact(ends)
	var all []task
	from := 0
	for _, t := range o.ended {
		if t.from == from {
			continue
		}
		from = t.from
		next, _ := slices.BinarySearch(ends, from)
		for _, to := range ends[next:min(len(ends), next+mostWindows)] {
			all = append(all, task{gone, 1, from, to, 1})
		}
	}
	slices.SortStableFunc(all, func(a, b task) int { return cmp.Compare(a.to-a.from, b.to-b.from) })
	return all[:min(len(all), mostWindows)]
}

// tasks tells what must have been done of which it is not known by which revisions: puts of keys that are told of, and puts and a deletion of others, for which there may be more needs.
func (o *old) tasks(more ...need) []task {
	times := map[task]int{}
	for _, l := range o.loose {
		times[task{again, l.n, l.from, l.to, 1}]++
	}
	all, most := tasksOf(times), 0
	needs := slices.Concat(o.needs, more)
	slices.SortFunc(needs, func(a, b need) int { return cmp.Compare(a.rev, b.rev) })
	for _, n := range needs {
		if n.keys > most {
			all = append(all, task{fresh, n.keys - most, 1, n.rev, 1})
			most = n.keys
		}
	}
	if o.last > 0 {
		all = append(all, task{gone, 1, o.last, o.rev, 1})
	}
	return all
}

// addsUp tells whether all that is known, and some tasks more, can have been done by so many revisions.
func (o *old) addsUp(more ...task) bool { return o.holdsAll(slices.Concat(o.tasks(), more)) }

// holdsAll tells whether revisions can have done these tasks, and deleted all that went, however that is counted.
func (o *old) holdsAll(tasks []task) bool {
	return o.holds(slices.Concat(tasks, o.deleted), false) && o.holdsLives(tasks) && o.holdsWindows(tasks)
}

// mayEndLeases tells whether a revision can have been made by leases that ended, with all that must have gone by it: it did nothing else then, and all their keys went. Before the first minute is over no two end together.
func (o *old) mayEndLeases(rev int) bool {
	s := o.plain[placeOf(o.plain, rev)]
	if s.maker != nil || s.created+s.puts > 0 {
		return false
	}
	ends := map[int]int{}
	for _, x := range o.all {
		if x.mustGoBy(rev, rev) {
			ends[x.lease]++
		}
	}
	if ends[0] > 0 || len(ends) > 1 && o.latest(rev) == 0 {
		return false
	}
	for _, facts := range o.facts {
		if slices.ContainsFunc(facts, func(f fact) bool { return ends[f.kv.Lease] > 0 && f.kv.Mod < rev && rev <= f.still }) {
			return false
		}
	}
	return true
}

// latest tells what time it was, at the latest, when a revision was made.
func (o *old) latest(rev int) int {
	i, _ := slices.BinarySearchFunc(o.replies, rev, byRev)
	if i < len(o.replies) {
		return o.replies[i].Time
	}
	return o.clock
}

// holdsWindows tells whether what went by one or the other of some revisions can all have gone by operations of these.
func (o *old) holdsWindows(tasks []task) bool {
	spare, spreads := o.spread(slices.Concat(tasks, o.deleted))
	for _, t := range o.within {
		if spreads && spare.have(t.n, t.from, t.to) {
			continue
		}
		apart := slices.DeleteFunc(slices.Clone(o.deleted), func(d task) bool { return t.from <= d.from && d.to <= t.to })
		if !o.holds(slices.Concat(tasks, apart, []task{t}), false) {
			return false
		}
	}
	return true
}

// holdsLives tells whether all lives can have ended, key by key: a transaction of which it is known how many keys it deleted deleted no more.
func (o *old) holdsLives(tasks []task) bool {
	all := slices.Concat(tasks, o.ended)
	return o.holds(slices.DeleteFunc(all, func(t task) bool { return t.kind == gone && o.mayGo(t.from, t.to, false) }), true)
}

// mayGo tells whether any number of keys can have gone by some revisions: by one of which it is not known which transaction made it; or, if several will do, by one that deleted several at once.
func (o *old) mayGo(from, to int, several bool) bool {
	if from > to {
		return false
	}
	return slices.ContainsFunc(o.plain[placeOf(o.plain, from):placeOf(o.plain, to)+1], func(s stretch) bool {
		if s.maker == nil {
			return o.spare(s) > 0
		}
		_, _, many := slots(*s.maker)
		return several && many > 0
	})
}
