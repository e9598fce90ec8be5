package machine

import (
	"cmp"
	"slices"

	"horologe/api"
)

// Kinds of operations that a past which is forgotten must have had.
const (
	again = iota // puts of a key that was there, each by another revision
	gone         // deletions
	fresh        // puts of keys of which nothing else is known
)

// task is n operations of a kind by some revisions, and that so many times.
type task struct {
	kind, n, from, to int
	times             int
}

// tasksOf tells tasks, each so many times, in order: what is looked for must not hang on how a map is gone through.
func tasksOf(times map[task]int) []task {
	var all []task
	for t, n := range times {
		t.times = n
		all = append(all, t)
	}
	slices.SortFunc(all, func(a, b task) int {
		return cmp.Or(cmp.Compare(a.from, b.from), cmp.Compare(a.to, b.to), cmp.Compare(a.n, b.n))
	})
	return all
}

// stretch is revisions one behind the other of which the same is known.
type stretch struct {
	from, to      int
	created, puts int        // by each of them
	maker         *api.Reply // of the transaction that made it, if that is known
}

func (s stretch) size() int { return s.to - s.from + 1 }

// spare tells how many operations each of a stretch's revisions can have had beside what is known, if it is not known which transactions made them.
func (o *old) spare(s stretch) int { return o.ops - s.created - s.puts }

// mayDelete tells whether a revision of a stretch can have deleted something.
func (o *old) mayDelete(s stretch) bool {
	if s.maker == nil {
		return o.spare(s) > 0
	}
	_, ones, many := slots(*s.maker)
	return ones+many > s.puts
}

// slots tells how many operations of a transaction found nothing, put or deleted one key, deleted several.
func slots(r api.Reply) (zeros, ones, many int) {
	for _, x := range r.Results {
		switch {
		case len(x.KVs) > 0:
		case x.N == 0:
			zeros++
		case x.N == 1:
			ones++
		default:
			many++
		}
	}
	return zeros, ones, many
}

// stretches cuts all revisions wherever what is known of them, or one of some tasks, begins or ends.
func (o *old) stretches(tasks []task) []stretch {
	cuts := []int{1, o.rev + 1}
	for _, s := range slices.Concat(o.created, o.puts) {
		cuts = append(cuts, s.from, s.to+1)
	}
	for _, t := range tasks {
		cuts = append(cuts, t.from, t.to+1)
	}
	for rev := range o.makers {
		cuts = append(cuts, rev, rev+1)
	}
	slices.Sort(cuts)
	cuts = slices.Compact(cuts)
	all := make([]stretch, len(cuts)-1)
	created, puts := counts(o.created, cuts), counts(o.puts, cuts)
	for i := range all {
		all[i] = stretch{cuts[i], cuts[i+1] - 1, created[i], puts[i], nil}
		if at, made := o.makers[cuts[i]]; made {
			all[i].maker = &o.replies[at]
		}
	}
	return all
}

// counts tells how many spans have the revisions from each cut on, up to the next one.
func counts(spans []span, cuts []int) []int {
	n := make([]int, len(cuts))
	for _, s := range spans {
		from, _ := slices.BinarySearch(cuts, s.from)
		to, _ := slices.BinarySearch(cuts, s.to+1)
		n[from]++
		n[to]--
	}
	for i := 1; i < len(n); i++ {
		n[i] += n[i-1]
	}
	return n
}

// mostPipes is how many of them are laid in all, and how much else is looked at, to find whether operations can have been done.
const mostPipes = 1 << 20

// holds tells whether all that revisions are known to have done, and these tasks, can be done by them. Deletions are counted by operations, or else by keys.
func (o *old) holds(tasks []task, byKeys bool) bool {
	if slices.ContainsFunc(tasks, func(t task) bool { return t.from > t.to }) {
		return false
	}
	if _, spreads := o.spread(tasks); spreads || o.pipes < 0 {
		return true
	}
	all := o.stretches(tasks)
	f, sum := newFlow(), 0
	doors := make([][3]int, len(all))
	for i, s := range all {
		doors[i] = o.doors(f, s, byKeys)
	}
	for _, t := range tasks {
		work, node := t.n*t.times, f.node()
		sum += work
		f.join(0, node, work)
		for i := placeOf(all, t.from); i <= placeOf(all, t.to); i++ {
			if door := doors[i][t.kind]; door > 0 && t.kind == again {
				f.join(node, door, min(t.n, all[i].size())*t.times)
			} else if door > 0 {
				f.join(node, door, work)
			}
		}
		if o.pipes -= len(f.from[node]); o.pipes < 0 {
			return true // there is too much of it
		}
	}
	return f.most() == sum
}

// placeOf tells which stretch has a revision.
func placeOf(all []stretch, rev int) int {
	i, is := slices.BinarySearchFunc(all, rev, func(s stretch, rev int) int { return cmp.Compare(s.from, rev) })
	if !is {
		i--
	}
	return i
}

// doors makes the nodes by which operations of each kind come to a stretch (0: none can).
func (o *old) doors(f *flow, s stretch, byKeys bool) (doors [3]int) {
	door := func(to, room int) int {
		if room <= 0 {
			return 0
		}
		node := f.node()
		f.join(node, to, room)
		return node
	}
	if s.maker == nil {
		all := door(1, o.spare(s)*s.size())
		return [3]int{all, all, all}
	}
	zeros, ones, many := slots(*s.maker)
	if byKeys {
		many = changed(*s.maker) - ones
	}
	doors[fresh] = door(1, zeros-s.created)
	doors[gone] = door(1, ones+many-s.puts)
	doors[again] = door(doors[gone], ones-s.puts)
	return doors
}
