package machine

import "slices"

// place is where something was done of which it is not known what: by each of some revisions, or n times by the transaction that made one.
type place struct {
	stretch
	n int
}

// mostPlaces is in how many of them it is looked for work, mostTasks among how many tasks; mostLooks is how often it is looked what would be, if a life had gone on, mostLives of how many lives.
const (
	mostPlaces = 64
	mostTasks  = 4096
	mostLooks  = 64
	mostLives  = 1024
)

// idles tells whether revisions are left with nothing to do: what they put or deleted none of the others has room to delete or put.
func (o *old) idles() bool {
	tasks := o.tasks()
	all := o.places(tasks)
	if len(all) > mostPlaces || len(tasks)+len(o.ended) > mostTasks {
		return false
	}
	all = slices.DeleteFunc(all, func(p place) bool { return p.n == 0 || p.maker == nil && o.mayChange(p.stretch) })
	if o.lacks(all, tasks) == 0 {
		return false
	}
	poor := slices.DeleteFunc(all, o.hasWork) // there, nothing was done to keys of which nothing is known
	return o.lacks(poor, tasks) > 0
}

// places tells where work is needed: by revisions that are not known to have done anything, and by transactions that are known to have changed more than is known. Where nothing at all is known of two revisions, they have work enough: one puts what the other one deletes.
func (o *old) places(tasks []task) []place {
	works := slices.Concat(tasks, o.ended)
	stretches := o.stretches(works)
	steps := make([]int, len(stretches)+1)
	for _, t := range works {
		steps[placeOf(stretches, t.from)]++
		steps[placeOf(stretches, t.to)+1]--
	}
	var all, bare []place
	cover, n := 0, 0
	for i, s := range stretches {
		cover += steps[i]
		switch {
		case s.maker != nil:
			all = append(all, place{s, min(changed(*s.maker), o.mayTouch(s)) - s.puts}) // what is more is looked for as hidden
		case s.created+s.puts > 0:
		case cover > 0:
			all = append(all, place{s, s.size()})
		default:
			bare = append(bare, place{s, s.size()})
			n += s.size()
		}
	}
	if n == 1 {
		all = append(all, bare...)
	}
	return all
}

// mayTouch tells how many keys of which something is known the transaction that made a revision can have put, being there, or deleted.
func (o *old) mayTouch(s stretch) int {
	_, ones, _ := slots(*s.maker)
	n := min(o.mayPut(s.from), ones)
	for _, t := range o.ended {
		if t.from <= s.from && s.from <= t.to {
			n += t.times
		}
	}
	return n
}

// mayChange tells whether a life can have ended, or its key have been put ahead of that, by each revision of a stretch.
func (o *old) mayChange(s stretch) bool {
	return slices.ContainsFunc(o.ended, func(t task) bool {
		return t.from <= s.from && s.to <= t.to && (s.size() > 1 || o.mayStay(t, s.from))
	})
}

// mayStay tells whether a life that ended by some revisions can have gone on till one of them.
func (o *old) mayStay(t task, rev int) bool {
	return t.from == rev || slices.ContainsFunc(o.all, func(x *life) bool {
		return x.since == t.from && x.by == t.to && o.addsUpTill(x, rev)
	})
}

// addsUpTill tells whether all adds up, if a life went on till a revision, at least.
func (o *old) addsUpTill(x *life, rev int) bool {
	if o.looks--; o.looks < 0 || len(o.all) > mostLives {
		return true
	}
	was, sums := *x, o.sums
	x.to, x.since, o.stayed = rev-1, rev, []span{{x.key, was.since, rev - 1}}
	o.sum()
	adds := o.addsUp()
	*x, o.sums = was, sums
	return adds
}

// lacks tells how much work is needed, at least, that is none of these tasks, and, of what transactions are known to have changed, nothing that was done to lives that ended.
func (o *old) lacks(all []place, tasks []task) int {
	f, n := newFlow(), 0
	doors := make([]int, len(all))
	for i, p := range all {
		n += p.n
		doors[i] = f.node()
		f.join(doors[i], 1, p.n)
	}
	join := func(t task, work int, fits func(p place) bool) {
		node := f.node()
		f.join(0, node, work)
		for i, p := range all {
			if t.from <= p.from && p.to <= t.to && fits(p) {
				f.join(node, doors[i], min(work, t.times*p.size()))
			}
		}
	}
	for _, t := range tasks {
		join(t, t.n*t.times, func(p place) bool { return p.maker == nil || t.kind != fresh })
	}
	for _, t := range o.ended { // the key can have been put by any number of revisions ahead of that
		join(t, n, func(p place) bool { return p.maker != nil })
	}
	return n - f.most()
}

// hasWork tells whether what one revision of a place did, and nothing else, can have been to a key of which nothing is known.
func (o *old) hasWork(p place) bool {
	if p.maker != nil {
		return o.mayTouchOther(p)
	}
	deletes := need{p.to - 1, o.short(p.to) + 1}
	if o.holdsAll(append(o.tasks(deletes), task{fresh, o.ops, p.to, p.to, 1})) {
		return true
	}
	puts, then := task{fresh, o.ops, p.from, p.from, 1}, task{gone, 1, p.from + 1, o.rev, 1}
	if o.last > 0 || o.mayShare(p.from+1, "") { // it can have gone with others
		return o.addsUp(puts) && o.holdsLives(append(o.tasks(), puts, then))
	}
	return o.addsUp(puts, then)
}

// mayTouchOther tells whether one of the keys that the transaction that made a revision changed can be one of which nothing is known, though there may be others.
func (o *old) mayTouchOther(p place) bool {
	changes := o.changes(*p.maker)
	changes.known = p.n + p.puts - 1
	tasks, one := o.tasks(need{p.from - 1, o.short(p.from, changes)}), task{gone, 1, p.from, p.from, 1}
	if _, _, many := slots(*p.maker); many == 0 {
		return o.holdsAll(append(tasks, one))
	}
	return o.holdsAll(tasks) && o.holdsLives(append(tasks, one))
}
