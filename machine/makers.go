package machine

import (
	"slices"

	"horologe/api"
)

// window is between which results of a transaction it put or deleted a key.
type window struct {
	behind, ahead int
}

// windowOf tells that of a key, as far as the transaction's own results tell it: goes says that the key was deleted.
func windowOf(key string, r api.Reply, goes bool) window {
	w := window{-1, len(r.Results)}
	for i, x := range r.Results {
		at, told := slices.BinarySearchFunc(x.KVs, key, byKey)
		passed := !told && at > 0 && at < len(x.KVs)
		switch {
		case told && x.KVs[at].Mod == r.Rev, passed && goes:
			w.ahead = min(w.ahead, i)
		case told, passed:
			w.behind = i
		}
	}
	return w
}

// windows tells that of each key that the revision is known to have put.
func (o *old) windows(spans []span, r api.Reply) []window {
	var all []window
	for _, s := range spans {
		if s.has(r.Rev) {
			all = append(all, windowOf(s.key, r, false))
		}
	}
	return all
}

// couldHaveMade tells whether a reply can be of the transaction that made its revision, with all that it is known to have done.
func (o *old) couldHaveMade(r api.Reply) bool {
	if changed(r) > o.mostKeys(r.Rev-1) {
		return false
	}
	puts := o.windows(o.puts, r)
	if o.foundMore(r, puts) {
		return false
	}
	var goes []bundle
	for _, g := range o.groups(r.Rev, r.Rev, true) {
		goes = append(goes, o.bundle(g, r))
	}
	p := packing{results: r.Results}
	return fit(o.windows(o.created, r), r.Results) && p.fits(0, puts, goes)
}

// fit tells whether each window has an operation of its own that found nothing: of those that can be the one, the first to close takes it.
func fit(windows []window, results []api.Result) bool {
	for i, x := range results {
		if len(x.KVs) > 0 || x.N != 0 {
			continue
		}
		if next := open(windows, i); next >= 0 {
			windows = slices.Delete(windows, next, next+1)
		}
	}
	return len(windows) == 0
}

// open tells which of the windows that are open at a result is the first to close (-1: none is open).
func open(windows []window, at int) int {
	next := -1
	for j, w := range windows {
		if w.behind < at && at < w.ahead && (next < 0 || w.ahead < windows[next].ahead) {
			next = j
		}
	}
	return next
}

// mostSteps is how long an order of operations is looked for.
const mostSteps = 5000

// bundle is keys that a transaction must have deleted, by operations that deleted no others than these and some that lay beside them.
type bundle struct {
	keys   []window
	more   int // how many others there were, at most
	behind int // but ahead of this result there may have been more
}

// bundle tells that of a group: which keys lay beside them is known, if they were all told one behind the other.
func (o *old) bundle(g group, r api.Reply) bundle {
	b := bundle{more: never, behind: len(r.Results)}
	for _, key := range g.keys {
		b.keys = append(b.keys, windowOf(key, r, true))
	}
	if g.lo == "" || g.hi == "" {
		return b
	}
	for i, list := range r.Results {
		if others, all := o.othersBetween(g, r.Rev, list.KVs); all && b.behind > i {
			b.more, b.behind = others, i
		}
	}
	for _, list := range o.listsAt(r.Rev - 1) {
		if others, all := o.othersBetween(g, r.Rev, list.KVs); all {
			b.more, b.behind = others, -1
		}
	}
	return b
}

// listsAt tells the results that tell keys as they were at the end of a revision, with no other keys between them. (Of a reply that may be that of the transaction that made it, those behind which it put no other key.)
func (o *old) listsAt(rev int) []api.Result {
	first, _ := slices.BinarySearchFunc(o.replies, rev, byRev)
	_, made := o.makers[rev]
	var all []api.Result
	for i := first; i < len(o.replies) && o.replies[i].Rev == rev; i++ {
		r := o.replies[i]
		if o.madeBy(i) {
			continue
		}
		for j, list := range r.Results {
			if zeros, _, _ := slots(api.Reply{Results: r.Results[j:]}); made || r.Time > o.replies[first].Time || zeros == 0 {
				all = append(all, list)
			}
		}
	}
	return all
}

// othersBetween tells, if some keys are all that lay between a group's neighbours, how many of them, but for the group's own, a revision can have deleted.
func (o *old) othersBetween(g group, rev int, kvs []api.KV) (others int, all bool) {
	lo, left := slices.BinarySearchFunc(kvs, g.lo, byKey)
	hi, right := slices.BinarySearchFunc(kvs, g.hi, byKey)
	if !left || !right {
		return 0, false
	}
	for _, kv := range kvs[lo+1 : hi] {
		if slices.ContainsFunc(o.of(kv.Key), func(x *life) bool { return x.mayGoBy(rev) }) && !slices.Contains(g.keys, kv.Key) {
			others++
		}
	}
	return others, true
}

// packing looks for operations of a transaction that can have put and deleted what is known to have gone.
type packing struct {
	results []api.Result
	steps   int
}

// fits tells whether the operations from one on can have put these, each by one that changed one key, and deleted these, by one for keys of one bundle alone. What is not known, they can have done to other keys.
func (p *packing) fits(at int, puts []window, goes []bundle) bool {
	if len(puts) == 0 && len(goes) == 0 {
		return true
	}
	if p.steps++; p.steps > mostSteps {
		return true
	}
	for at < len(p.results) && (len(p.results[at].KVs) > 0 || p.results[at].N == 0) {
		at++
	}
	if len(puts)+len(goes) > len(p.results)-at {
		return false
	}
	n := p.results[at].N
	if next := open(puts, at); next >= 0 && n == 1 && p.fits(at+1, slices.Delete(slices.Clone(puts), next, next+1), goes) {
		return true
	}
	for i, b := range goes {
		if rest, some := b.take(n, at); some && p.fits(at+1, puts, replace(goes, i, rest)) {
			return true
		}
	}
	return p.fits(at+1, puts, goes)
}

// take lets an operation delete n keys, as many as can be of a bundle's own, and tells what is left, and whether that can be.
func (b bundle) take(n, at int) (bundle, bool) {
	keys := slices.Clone(b.keys)
	for n > 0 {
		next := open(keys, at)
		if next < 0 {
			break
		}
		keys = slices.Delete(keys, next, next+1)
		n--
	}
	if len(keys) == len(b.keys) || at > b.behind && n > b.more {
		return b, false
	}
	if at > b.behind && b.more != never {
		b.more -= n
	}
	b.keys = keys
	return b, true
}

// replace puts what is left of a bundle in its place.
func replace(goes []bundle, i int, rest bundle) []bundle {
	goes = slices.Clone(goes)
	if len(rest.keys) == 0 {
		return slices.Delete(goes, i, i+1)
	}
	goes[i] = rest
	return goes
}

// foundMore tells whether the transaction that made a revision found more keys than can be there at its end, and than it can have deleted later on.
func (o *old) foundMore(r api.Reply, puts []window) bool {
	left, slots := changed(r), 0
	for i, x := range r.Results {
		if len(x.KVs) > 0 {
			if o.lost(x, r, i) > left-laterPuts(puts, i, slots) {
				return true
			}
			continue
		}
		if left -= x.N; x.N == 1 {
			slots++
		}
	}
	return false
}

// lost tells how many keys, at least, a result found that are not there at the revision's end.
func (o *old) lost(x api.Result, r api.Reply, at int) int {
	if r.Rev < o.rev {
		return x.N - o.most.keys
	}
	n := 0
	for _, kv := range x.KVs {
		if _, there := o.base.kvs[kv.Key]; !there {
			n++
		}
	}
	first, _ := slices.BinarySearch(o.base.keys, x.KVs[0].Key)
	found, created := 0, 0
	for _, key := range o.base.keys[first:] {
		if o.base.kvs[key].Create < r.Rev {
			found++
		} else if windowOf(key, r, false).behind < at {
			created++
		}
	}
	zeros, _, _ := slots(api.Reply{Results: r.Results[:at]})
	return max(n, x.N-found-min(created, zeros))
}

// laterPuts tells how many puts, at least, come behind a result: those of which it tells the key as it was, and those for which there were not slots enough ahead of it.
func laterPuts(puts []window, result, slots int) int {
	n := 0
	for _, w := range puts {
		if w.behind >= result {
			n++
		}
	}
	return max(n, len(puts)-slots)
}
