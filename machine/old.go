package machine

import (
	"slices"

	"horologe/api"
)

// old is what bytes tell of a machine up to the revision to which it was compacted: the keys that were there then, and what was answered.
type old struct {
	rev  int
	base *scene
	lives
	most level
}

// level is how many keys, at most, were there at the end of a revision.
type level struct {
	rev, keys int
}

// couldBeCompacted tells whether commands can have left these keys at a revision, and answered so up to then. As most of what they did is forgotten, only what can't be is looked for.
func couldBeCompacted(rev int, base []api.KV, replies []api.Reply) bool {
	o := &old{rev: rev, base: newScene(base), lives: lives{facts: map[string][]fact{}}, most: level{rev, len(base)}}
	for _, kv := range base {
		o.facts[kv.Key] = []fact{{kv, rev}}
	}
	for _, r := range replies {
		if !o.note(r) {
			return false
		}
	}
	if !couldHold(base) || !o.ordered() || o.tooMany() || o.lacks() || o.idles() {
		return false
	}
	for n := len(replies); n > 0; { // from the last one on, as it is the end of which most is known
		first, _ := slices.BinarySearchFunc(replies, replies[n-1].Rev, byRev)
		if !o.couldBeAt(replies[first:n]) {
			return false
		}
		n = first
	}
	return true
}

// couldHold tells whether keys that were there together can have had their leases.
func couldHold(kvs []api.KV) bool {
	users := map[int]int{}
	for _, kv := range kvs {
		if kv.Lease < 0 || kv.Lease > maxLease {
			return false
		}
		users[kv.Lease]++
	}
	delete(users, 0)
	return len(users) <= maxLeases
}

// note takes what a reply tells for facts, if it can be told at its revision, whatever was there.
func (o *old) note(r api.Reply) bool {
	left := changed(r)
	for _, x := range r.Results {
		if len(x.KVs) == 0 {
			left -= x.N
		}
		if x.N > mostKeys(r.Rev) || !couldHold(x.KVs) {
			return false
		}
		for i, kv := range x.KVs {
			if !couldBePut(kv) || kv.Mod > r.Rev || i > 0 && x.KVs[i-1].Key >= kv.Key {
				return false
			}
			f := fact{kv, r.Rev}
			if left > 0 { // what it told it may have changed later on, but for what it had put
				f.still = max(kv.Mod, r.Rev-1)
			}
			o.facts[kv.Key] = append(o.facts[kv.Key], f)
		}
	}
	return true
}

// mostKeys tells how many keys can be there at a revision.
func mostKeys(rev int) int { return min(rev, api.MaxKeys/api.MaxOps) * api.MaxOps }

// changed tells how many keys, of those that were there ahead of it, a transaction put or deleted.
func changed(r api.Reply) int {
	n := 0
	for _, x := range r.Results {
		if len(x.KVs) == 0 {
			n += x.N
		}
	}
	return n
}

// couldBePut tells whether a key can be like that: each Version of it took a revision.
func couldBePut(kv api.KV) bool {
	if len(kv.Key) == 0 || len(kv.Key) > api.MaxKey || len(kv.Value) > api.MaxValue || kv.Create < 1 || kv.Mod < kv.Create {
		return false
	}
	age := kv.Mod - kv.Create
	return kv.Version > min(age, 1) && kv.Version <= age+1
}

// lacks tells whether a key that is known to be there at the last revision is not.
func (o *old) lacks() bool {
	for key, spans := range o.there {
		if _, there := o.base.kvs[key]; !there && spans[len(spans)-1].to == o.rev {
			return true
		}
	}
	return false
}

// idles tells whether one revision is left with nothing to do: only what is not there any more can have been put or deleted by it, and no other revision had room for it.
func (o *old) idles() bool {
	for key, spans := range o.there {
		if _, there := o.base.kvs[key]; !there || len(spans) > 1 {
			return false
		}
	}
	none, least := gaps(slices.Concat(o.created, o.puts), o.rev)
	return none == 1 && least >= api.MaxOps && !o.hidden
}

// couldBeAt tells whether these replies can be those of one revision: one of them can be of the transaction that made it, and was the first one then; all others found it made.
func (o *old) couldBeAt(replies []api.Reply) bool {
	rev := replies[0].Rev
	if o.most.rev != rev {
		o.most = level{rev, mostKeys(rev)}
	}
	if o.known(rev) > o.most.keys {
		return false
	}
	ahead := level{rev: -1} // not known, unless it is known what the revision did
	for _, r := range replies {
		if o.foundMade(r) {
			continue
		}
		if ahead.rev >= 0 || r.Time != replies[0].Time || !o.couldHaveMade(r) {
			return false
		}
		ahead = level{rev - 1, o.most.keys + changed(r) - len(windows(o.puts, r)) - len(windows(o.created, r))}
	}
	o.most = ahead
	return true
}

// foundMade tells whether a reply can be of a command that changed nothing at its revision.
func (o *old) foundMade(r api.Reply) bool {
	if r.Rev == o.rev {
		return o.base.answers(r)
	}
	if r.Err == api.ErrFull {
		return lacksRoom(o.most.keys)
	}
	return changed(r) == 0 && !slices.ContainsFunc(r.Results, func(x api.Result) bool { return x.N > o.most.keys || o.passesOver(x.KVs, r.Rev, true) })
}

// couldHaveMade tells whether a reply can be of the transaction that made its revision, with all the puts that it is known to have had.
func (o *old) couldHaveMade(r api.Reply) bool {
	if r.Err != api.OK || changed(r) > mostKeys(r.Rev-1) {
		return false
	}
	if slices.ContainsFunc(r.Results, func(x api.Result) bool { return o.passesOver(x.KVs, r.Rev, false) }) {
		return false
	}
	puts := windows(o.puts, r)
	if o.foundMore(r, puts) {
		return false
	}
	return fit(windows(o.created, r), r.Results, 0) && fit(puts, r.Results, 1)
}
