package machine

import (
	"slices"

	"horologe/api"
)

// need is how many keys of which nothing is told must have been put by a revision, at least.
type need struct {
	rev, keys int
}

// hidden tells how many keys of which nothing is told replies need, and from which revision on one of them must have gone by an operation of its own (0: none must).
func (o *old) hidden() (needs []need, last int) {
	for i, r := range o.replies {
		behind := r.Rev + 1 // whatever was found was there ahead of this revision
		if o.madeBy(i) {
			needs, behind = append(needs, need{r.Rev - 1, o.short(r.Rev, o.changes(r))}), r.Rev
		}
		found := func(n int, from, to string) {
			p := o.finds(n, from, r.Rev, behind)
			needs = append(needs, need{r.Rev, o.short(behind, p)})
			if o.short(0, p) > 0 && !o.mayShare(behind, to) {
				last = behind
			}
		}
		for _, x := range r.Results {
			if len(x.KVs) > 0 && x.N > len(x.KVs) {
				found(x.N, x.KVs[0].Key, x.KVs[len(x.KVs)-1].Key)
			}
		}
		if isFull(r) {
			found(o.room-o.ops+1, "", "")
		}
	}
	return needs, last
}

// pool is keys that were there together, all of them others than those of any other pool.
type pool struct {
	keys  int
	known int                // how many of them, at most, can be such of which something is known
	sure  int                // how many of these can be such as are in no other pool
	may   func(x *life) bool // which lives that ended can be in it
}

// changes is the keys that the transaction that made a revision put, being there, or deleted.
func (o *old) changes(r api.Reply) pool {
	_, ones, _ := slots(r)
	p := o.deletes(r)
	return pool{p.keys + ones, p.known + ones, min(o.mayPut(r.Rev), ones), p.may}
}

// deletes is the keys that the transaction that made a revision deleted by operations that deleted several: each of them such as lay side by side.
func (o *old) deletes(r api.Reply) pool {
	most, n := 0, 0
	for _, x := range o.all {
		if x.has(r.Rev) {
			n = 0
		} else if x.mayGoBy(r.Rev) {
			n++
			most = max(most, n)
		}
	}
	p := pool{may: func(x *life) bool { return x.mayGoBy(r.Rev) }}
	for _, x := range r.Results {
		if len(x.KVs) == 0 && x.N > 1 {
			p.keys += x.N
			p.known += min(x.N, most)
		}
	}
	return p
}

// finds is n keys that were found from one on, at a revision, and that were there ahead of another one.
func (o *old) finds(n int, from string, rev, behind int) pool {
	may := func(x *life) bool {
		return x.key >= from && x.from <= rev && x.ended() && x.by >= behind && !x.has(rev)
	}
	return pool{n, n, known(o.behind(from), rev), may}
}

// mayPut tells how many keys that stayed a revision can have put.
func (o *old) mayPut(rev int) int {
	n := 0
	for _, s := range slices.Concat(o.puts, o.stayed) {
		if s.has(rev) {
			n++
		}
	}
	for _, l := range o.loose {
		if l.has(rev) {
			n++
		}
	}
	return n
}

// short tells how many keys of which nothing is known there are, at least, in some pools, and in those of transactions ahead of a revision that deleted several keys at once.
func (o *old) short(rev int, pools ...pool) int {
	for _, i := range o.makers {
		if _, _, many := slots(o.replies[i]); many > 0 && o.replies[i].Rev < rev {
			pools = append(pools, o.deletes(o.replies[i]))
		}
	}
	if o.pipes -= len(pools) * len(o.all) / 16; o.pipes < 0 || len(pools) == 0 {
		return 0
	}
	f, n := newFlow(), 0
	doors := make([]int, len(pools))
	for i, p := range pools {
		n += p.keys
		doors[i] = f.node()
		f.join(doors[i], 1, min(p.keys, p.known))
		f.join(0, doors[i], p.sure)
	}
	for which, times := range o.whichPools(pools) {
		node := f.node()
		f.join(0, node, times)
		for i := range pools {
			if which[i/64]>>(i%64)&1 == 1 {
				f.join(node, doors[i], times)
			}
		}
	}
	return n - f.most()
}

// whichPools tells how many lives can be in which pools, of which there are no more than clients and one.
func (o *old) whichPools(pools []pool) map[[2]uint64]int {
	all := map[[2]uint64]int{}
	for _, x := range o.all {
		var which [2]uint64
		for i, p := range pools {
			if p.may(x) {
				which[i/64] |= 1 << (i % 64)
			}
		}
		if which != [2]uint64{} {
			all[which]++
		}
	}
	return all
}

// mostBetween is how many keys are looked at to find one that stayed.
const mostBetween = 1000

// mayShare tells whether a key that lies behind one, and that went by a revision or behind it, can have gone by an operation that another one went by, too: no third one that stayed lay between them.
func (o *old) mayShare(rev int, key string) bool {
	tries := 0
	for _, x := range o.all {
		from := max(rev, x.since)
		if !x.ended() || !o.mayGo(from, x.by, true) {
			continue
		}
		if tries++; x.key >= key || tries > mostBetween || !o.staysBetween(x.key, key, from, x.by) {
			return true
		}
	}
	return false
}

// staysBetween tells whether a key behind one, and not behind another one, is known to have been there at the end of all these revisions.
func (o *old) staysBetween(lo, hi string, from, to int) bool {
	all := o.between(lo, next(hi))
	return slices.ContainsFunc(all[:min(len(all), mostBetween)], func(x *life) bool { return x.from <= from && x.to >= to })
}
