package machine

// unit is what one operation counts for where operations are shared out in parts.
const unit = 1 << 20

// shares is how revisions have tasks shared out among them.
type shares struct {
	all  []stretch
	left []int // for how much each revision of a stretch has room still
}

// spread shares each task out evenly among the revisions that have room, of those of which it is not known which transactions made them, and tells whether that can be. If it can, whole operations can be laid out, too, as in any network of pipes; most of the time it can, and nothing else is to be looked for.
func (o *old) spread(tasks []task) (shares, bool) {
	all := o.stretches(tasks)
	o.pipes -= len(all) + len(tasks)
	room := make([]int, len(all))
	wide := make([]int, len(all)+1) // how many of them are ahead of each stretch
	for i, s := range all {
		if wide[i+1] = wide[i]; s.maker == nil && o.spare(s) > 0 {
			room[i] = o.spare(s) * unit
			wide[i+1] += s.size()
		}
	}
	loads := make([]int, len(all)+1)
	for _, t := range tasks {
		from, to := placeOf(all, t.from), placeOf(all, t.to)+1
		width := wide[to] - wide[from]
		if width == 0 || t.kind == again && t.n > width {
			return shares{}, false
		}
		load := (t.n*unit + width - 1) / width * t.times
		loads[from] += load
		loads[to] -= load
	}
	load := 0
	for i := range all {
		if load += loads[i]; room[i] > 0 {
			room[i] -= load
		}
		if room[i] < 0 {
			return shares{}, false
		}
	}
	return shares{all, room}, true
}

// have tells whether some revisions have room for n operations more, in parts.
func (s shares) have(n, from, to int) bool {
	n *= unit
	for i := placeOf(s.all, from); n > 0 && i < len(s.all) && s.all[i].from <= to; i++ {
		size := min(to, s.all[i].to) - max(from, s.all[i].from) + 1
		n -= s.left[i] * min(size, n) // as much as is needed: the rest need not be counted
	}
	return n <= 0
}
