package machine

import "horologe/api"

// passesOver tells whether keys that were told one behind the other at the end of a revision have one between them that was there.
func (l *lives) passesOver(kvs []api.KV, rev int) bool {
	for i := range kvs[min(1, len(kvs)):] {
		if known(l.between(kvs[i].Key, kvs[i+1].Key), rev) > 0 {
			return true
		}
	}
	return false
}

// end finds by which revisions each life can have ended, and tells whether there are any for each that has.
func (o *old) end() bool {
	for _, x := range o.all {
		if _, there := o.base.kvs[x.key]; !there {
			x.by = min(x.by, o.rev)
		}
	}
	for i, r := range o.replies {
		there := r.Rev
		if o.madeBy(i) {
			there-- // what the revision created may have come later on in the transaction
		}
		for _, list := range r.Results {
			o.endBetween(list.KVs, there, r.Rev)
		}
	}
	for _, x := range o.all {
		if x.since = x.to + 1; x.ended() && (x.since > x.by || !o.narrow(x)) {
			return false
		}
	}
	return true
}

// endBetween lets all keys that lie between those that were told, and that were there at a revision, have gone by another one.
func (o *old) endBetween(kvs []api.KV, there, by int) {
	for i := range kvs[min(1, len(kvs)):] {
		for _, x := range o.between(kvs[i].Key, kvs[i+1].Key) {
			if x.from <= there {
				x.by = min(x.by, by)
			}
		}
	}
}

// narrow leaves revisions out, at both ends, that had no room for a deletion, and tells whether any are left.
func (o *old) narrow(x *life) bool {
	first, last := placeOf(o.plain, x.since), placeOf(o.plain, x.by)
	for first <= last && !o.mayDelete(o.plain[first]) {
		first++
	}
	for first <= last && !o.mayDelete(o.plain[last]) {
		last--
	}
	if first > last {
		return false
	}
	x.since, x.by = max(x.since, o.plain[first].from), min(x.by, o.plain[last].to)
	return true
}

// group is keys that must have gone by some revisions, and between which others that was, which stayed there all the time (empty: none did).
type group struct {
	keys   []string
	lo, hi string
}

// groups tells the keys that must have gone by these revisions: no operation can have deleted two of different groups. Those that had a lease are left out, unless they are asked for.
func (o *old) groups(from, to int, leased bool) []group {
	var all []group
	apart, lo := true, ""
	for _, x := range o.all {
		switch {
		case x.from <= from && x.to >= to:
			if !apart {
				all[len(all)-1].hi = x.key
			}
			apart, lo = true, x.key
		case !x.mustGoBy(from, to) || x.lease != 0 && !leased:
		case apart:
			all = append(all, group{lo: lo})
			fallthrough
		default:
			last := &all[len(all)-1]
			last.keys = append(last.keys, x.key)
			apart = false
		}
	}
	return all
}
