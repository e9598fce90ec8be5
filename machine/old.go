package machine

import (
	"slices"

	"horologe/api"
)

// old is what bytes tell of a machine up to the revision to which it was compacted: the keys that were there then, and what was answered.
type old struct {
	rev  int
	base *scene
	lives
}

// couldBeCompacted tells whether commands can have left these keys at a revision, and answered so up to then. As most of what they did is forgotten, only what can't be is looked for.
func couldBeCompacted(rev int, base []api.KV, replies []api.Reply) bool {
	o := &old{rev: rev, base: newScene(base), lives: lives{facts: map[string][]fact{}}}
	for _, kv := range base {
		o.facts[kv.Key] = []fact{{kv, rev}}
	}
	for _, r := range replies {
		if !o.note(r) {
			return false
		}
	}
	if !couldHold(base) || !o.ordered() || o.tooMany() || o.lacks() || o.idles() {
		return false
	}
	for len(replies) > 0 {
		n, _ := slices.BinarySearchFunc(replies, replies[0].Rev+1, byRev)
		if !o.couldBeAt(replies[:n]) {
			return false
		}
		replies = replies[n:]
	}
	return true
}

// couldHold tells whether keys that were there together can have had their leases.
func couldHold(kvs []api.KV) bool {
	users := map[int]int{}
	for _, kv := range kvs {
		if kv.Lease < 0 || kv.Lease > maxLease {
			return false
		}
		users[kv.Lease]++
	}
	delete(users, 0)
	return len(users) <= maxLeases
}

// note takes what a reply tells for facts, if it can be told at its revision, whatever was there.
func (o *old) note(r api.Reply) bool {
	if r.Err == api.ErrFull && mostKeys(r.Rev)+api.MaxOps <= api.MaxKeys {
		return false
	}
	left := changed(r)
	for _, x := range r.Results {
		if len(x.KVs) == 0 {
			left -= x.N
		}
		if x.N > mostKeys(r.Rev) || !couldHold(x.KVs) {
			return false
		}
		for i, kv := range x.KVs {
			if !couldBePut(kv) || kv.Mod > r.Rev || i > 0 && x.KVs[i-1].Key >= kv.Key {
				return false
			}
			f := fact{kv, r.Rev}
			if left > 0 { // what it told it may have changed later on, but for what it had put
				f.still = max(kv.Mod, r.Rev-1)
			}
			o.facts[kv.Key] = append(o.facts[kv.Key], f)
		}
	}
	return true
}

// mostKeys tells how many keys can be there at a revision.
func mostKeys(rev int) int { return min(rev, api.MaxKeys/api.MaxOps) * api.MaxOps }

// changed tells how many keys, of those that were there ahead of it, a transaction put or deleted.
func changed(r api.Reply) int {
	n := 0
	for _, x := range r.Results {
		if len(x.KVs) == 0 {
			n += x.N
		}
	}
	return n
}

// couldBePut tells whether a key can be like that: each Version of it took a revision.
func couldBePut(kv api.KV) bool {
	if len(kv.Key) == 0 || len(kv.Key) > api.MaxKey || len(kv.Value) > api.MaxValue || kv.Create < 1 || kv.Mod < kv.Create {
		return false
	}
	age := kv.Mod - kv.Create
	return kv.Version > min(age, 1) && kv.Version <= age+1
}

// lacks tells whether a key that is known to be there at the last revision is not.
func (o *old) lacks() bool {
	for key, spans := range o.there {
		if _, there := o.base.kvs[key]; !there && spans[len(spans)-1].to == o.rev {
			return true
		}
	}
	return false
}

// idles tells whether one revision is left with nothing to do: only what is not there any more can have been put or deleted by it, and no other revision had room for it.
func (o *old) idles() bool {
	for key, spans := range o.there {
		if _, there := o.base.kvs[key]; !there || len(spans) > 1 {
			return false
		}
	}
	none, least := gaps(slices.Concat(o.created, o.puts), o.rev)
	return none == 1 && least >= api.MaxOps && !o.hidden
}

// couldBeAt tells whether these replies can be those of one revision: one of them can be of the transaction that made it, and was the first one then; all others found it made.
func (o *old) couldBeAt(replies []api.Reply) bool {
	made := false
	for _, r := range replies {
		if o.foundMade(r) {
			continue
		}
		if made || r.Time != replies[0].Time || !o.couldHaveMade(r) {
			return false
		}
		made = true
	}
	return true
}

// foundMade tells whether a reply can be of a command that changed nothing at its revision.
func (o *old) foundMade(r api.Reply) bool {
	if r.Rev == o.rev {
		return o.base.answers(r)
	}
	return changed(r) == 0 && !slices.ContainsFunc(r.Results, func(x api.Result) bool { return o.passesOver(x.KVs, r.Rev, true) })
}

// couldHaveMade tells whether a reply can be of the transaction that made its revision, with all the puts that it is known to have had.
func (o *old) couldHaveMade(r api.Reply) bool {
	if r.Err != api.OK || changed(r) > mostKeys(r.Rev-1) {
		return false
	}
	if slices.ContainsFunc(r.Results, func(x api.Result) bool { return o.passesOver(x.KVs, r.Rev, false) }) {
		return false
	}
	puts := windows(o.puts, r)
	if r.Rev == o.rev && o.foundMore(r, puts) {
		return false
	}
	return fit(windows(o.created, r), r.Results, 0) && fit(puts, r.Results, 1)
}

// window is between which results of a transaction it put a key.
type window struct {
	behind, ahead int
}

// windows tells that of each key that a revision put, as far as the transaction's own results tell it.
func windows(spans []span, r api.Reply) []window {
	var all []window
	for _, s := range spans {
		if !s.has(r.Rev) {
			continue
		}
		w := window{-1, len(r.Results)}
		for i, x := range r.Results {
			at, told := slices.BinarySearchFunc(x.KVs, s.key, byKey)
			switch {
			case told && x.KVs[at].Mod == r.Rev:
				w.ahead = min(w.ahead, i)
			case told || at > 0 && at < len(x.KVs): // as it was, or passed over
				w.behind = i
			}
		}
		all = append(all, w)
	}
	return all
}

// fit tells whether each window has an operation of its own that was answered by n: of those that can be the one, the first to close takes it.
func fit(windows []window, results []api.Result, n int) bool {
	for i, x := range results {
		if len(x.KVs) > 0 || x.N != n {
			continue
		}
		next := -1
		for j, w := range windows {
			if w.behind < i && i < w.ahead && (next < 0 || w.ahead < windows[next].ahead) {
				next = j
			}
		}
		if next >= 0 {
			windows = slices.Delete(windows, next, next+1)
		}
	}
	return len(windows) == 0
}

// foundMore tells whether the transaction that made the last revision found more keys than are there at its end, and than it can have deleted later on.
func (o *old) foundMore(r api.Reply, puts []window) bool {
	left, slots := changed(r), 0
	for i, x := range r.Results {
		if len(x.KVs) > 0 {
			if o.gone(x) > left-laterPuts(puts, i, slots) {
				return true
			}
			continue
		}
		if left -= x.N; x.N == 1 {
			slots++
		}
	}
	return false
}

// gone tells how many keys, at least, a result found that are not there at the last revision's end.
func (o *old) gone(x api.Result) int {
	n := 0
	for _, kv := range x.KVs {
		if _, there := o.base.kvs[kv.Key]; !there {
			n++
		}
	}
	at, _ := slices.BinarySearch(o.base.keys, x.KVs[0].Key)
	return max(n, x.N-(len(o.base.keys)-at))
}

// laterPuts tells how many puts, at least, come behind a result: those of which it tells the key as it was, and those for which there were not slots enough ahead of it.
func laterPuts(puts []window, result, slots int) int {
	n := 0
	for _, w := range puts {
		if w.behind >= result {
			n++
		}
	}
	return max(n, len(puts)-slots)
}
