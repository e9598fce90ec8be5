package machine

import (
	"slices"

	"horologe/api"
)

// limits are those of a machine: how many operations a branch has, for how many keys there is room.
type limits struct {
	ops, room int
}

// limitsOfAll are those of each machine; tests of what is forgotten take lesser ones, within which all can be tried.
func limitsOfAll() limits { return limits{api.MaxOps, api.MaxKeys} }

// lacksRoom tells whether there are so many keys that a transaction can be refused because it puts more.
func (l limits) lacksRoom(keys int) bool { return keys+l.ops > l.room }

// mostKeys tells how many keys can be there at a revision.
func (l limits) mostKeys(rev int) int { return min(min(rev, l.room)*l.ops, l.room) }

// old is what bytes tell of a machine up to the revision to which it was compacted: the keys that were there then, and what was answered.
type old struct {
	limits
	rev     int
	clock   int // then, at the latest
	base    *scene
	replies []api.Reply
	makers  map[int]int // by revisions: the reply that can only be of the transaction that made it
	lives
	plain []stretch // all revisions, by what is known of each
	most  level
	sums
	pipes, looks int // that may still be laid, and taken
}

// level is how many keys, at most, were there at the end of a revision.
type level struct {
	rev, keys int
}

// farthest is up to which revision operations are counted: none that can be made within DOC.md's limits lies behind it.
const farthest = 1 << 40

// couldBeCompacted tells whether commands can have left these keys at a revision, the clock being no later then, and answered so up to then. As most of what they did is forgotten, only what can't be is looked for.
func couldBeCompacted(l limits, rev, clock int, base []api.KV, replies []api.Reply) bool {
	o := &old{limits: l, rev: rev, clock: clock, base: newScene(base), replies: replies, makers: map[int]int{}, lives: lives{facts: map[string][]fact{}}, most: level{rev, len(base)}, pipes: mostPipes, looks: mostLooks}
	for _, kv := range base {
		o.facts[kv.Key] = []fact{{kv, rev}}
	}
	for _, r := range replies {
		if !o.note(r) {
			return false
		}
	}
	if !couldHold(base) || !o.ordered() || o.tooMany() || !o.choose() {
		return false
	}
	o.plain = o.stretches(nil)
	if !o.end() {
		return false
	}
	for n := len(replies); n > 0; { // from the last one on, as it is the end of which most is known
		first, _ := slices.BinarySearchFunc(replies, replies[n-1].Rev, byRev)
		if !o.couldBeAt(first, n) {
			return false
		}
		n = first
	}
	if rev > farthest {
		return true
	}
	o.sum()
	return o.addsUp() && !o.idles()
}

// couldHold tells whether keys that were there together can have had their leases.
func couldHold(kvs []api.KV) bool {
	users := map[int]int{}
	for _, kv := range kvs {
		if kv.Lease < 0 || kv.Lease > maxLease {
			return false
		}
		users[kv.Lease]++
	}
	delete(users, 0)
	return len(users) <= maxLeases
}

// note takes what a reply tells for facts, if it can be told at its revision, whatever was there.
func (o *old) note(r api.Reply) bool {
	left := changed(r)
	for _, x := range r.Results {
		if len(x.KVs) == 0 {
			left -= x.N
		}
		if x.N > o.mostKeys(r.Rev) || !couldHold(x.KVs) || lacksNames(x) {
			return false
		}
		for i, kv := range x.KVs {
			if !couldBePut(kv) || kv.Mod > r.Rev || i > 0 && x.KVs[i-1].Key >= kv.Key {
				return false
			}
			f := fact{kv, r.Rev}
			if left > 0 { // what it told it may have changed later on, but for what it had put
				f.still = max(kv.Mod, r.Rev-1)
			}
			o.facts[kv.Key] = append(o.facts[kv.Key], f)
		}
	}
	return true
}

// changed tells how many keys, of those that were there ahead of it, a transaction put or deleted.
func changed(r api.Reply) int {
	n := 0
	for _, x := range r.Results {
		if len(x.KVs) == 0 {
			n += x.N
		}
	}
	return n
}

// couldBePut tells whether a key can be like that: each Version of it took a revision.
func couldBePut(kv api.KV) bool {
	if len(kv.Key) == 0 || len(kv.Key) > api.MaxKey || len(kv.Value) > api.MaxValue || kv.Create < 1 || kv.Mod < kv.Create {
		return false
	}
	age := kv.Mod - kv.Create
	return kv.Version > min(age, 1) && kv.Version <= age+1
}

// lacksNames tells whether a result says that there are more keys behind those that it tells than there are texts for.
func lacksNames(r api.Result) bool {
	if len(r.KVs) == 0 {
		return false
	}
	left, last := r.N-len(r.KVs), r.KVs[len(r.KVs)-1].Key
	names, each := 0, 1 // each: how many texts begin as one that is as long as what is looked at
	for size := api.MaxKey; size > 0 && names < left; size-- {
		if size > len(last) {
			each = min(each*256+1, left+1)
			continue
		}
		if size == len(last) {
			names += each - 1
		}
		names += int(255-last[size-1]) * each
		each = min(each*256+1, left+1)
	}
	return names < left
}

// tooMany tells whether a revision is known to have put more keys than a transaction can, or more keys or leases to have been there than there is room for.
func (o *old) tooMany() bool {
	var there []span
	for _, x := range o.all {
		there = append(there, x.span)
	}
	return crowd(slices.Concat(o.created, o.puts)) > o.ops || crowd(there) > o.room || crowd(o.leased()) > maxLeases
}

// choose finds, of each revision, the reply that can only be of the transaction that made it, which was the first one then; all others found it made.
func (o *old) choose() bool {
	for i, r := range o.replies {
		if o.foundMade(r) {
			continue
		}
		first, _ := slices.BinarySearchFunc(o.replies, r.Rev, byRev)
		if _, made := o.makers[r.Rev]; made || r.Err != api.OK || r.Time != o.replies[first].Time {
			return false
		}
		o.makers[r.Rev] = i
	}
	return true
}

// madeBy tells whether the reply at a place is of the transaction that made its revision.
func (o *old) madeBy(i int) bool {
	at, made := o.makers[o.replies[i].Rev]
	return made && at == i
}

// foundMade tells whether a reply can be of a command that changed nothing at its revision.
func (o *old) foundMade(r api.Reply) bool {
	if r.Rev == o.rev {
		return o.base.answers(o.limits, r)
	}
	return changed(r) == 0 && !slices.ContainsFunc(r.Results, func(x api.Result) bool { return o.passesOver(x.KVs, r.Rev) })
}

// couldBeAt tells whether the replies from one place on, up to another one, can be those of one revision.
func (o *old) couldBeAt(first, end int) bool {
	rev := o.replies[first].Rev
	if o.most.rev != rev {
		o.most = level{rev, o.mostKeys(rev)}
	}
	if known(o.all, rev) > o.most.keys {
		return false
	}
	ahead := level{rev: -1} // not known, unless it is known what the revision did
	for i := first; i < end; i++ {
		r := o.replies[i]
		switch {
		case !o.madeBy(i):
			if !o.hasRoom(r) {
				return false
			}
		case !o.couldHaveMade(r):
			return false
		default:
			ahead = level{rev - 1, o.most.keys + changed(r) - len(o.windows(o.puts, r)) - len(o.windows(o.created, r))}
		}
	}
	o.most = ahead
	return true
}

// hasRoom tells whether what a reply found made can have been so many keys.
func (o *old) hasRoom(r api.Reply) bool {
	if isFull(r) {
		return o.lacksRoom(o.most.keys)
	}
	return !slices.ContainsFunc(r.Results, func(x api.Result) bool {
		if len(x.KVs) == 0 || x.N == len(x.KVs) {
			return false
		}
		return x.N+known(o.between("", x.KVs[0].Key), r.Rev) > o.most.keys
	})
}

// isFull tells whether a reply says that there was no room.
func isFull(r api.Reply) bool { return r.Err == api.ErrFull }
