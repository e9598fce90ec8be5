package mvcc

import (
	"cmp"
	"slices"

	"horologe/api"
)

// couldBe tells whether some store has just these keys at revision rev.
func couldBe(base []api.KV, rev int) bool {
	for i, kv := range base {
		if !couldBePut(kv) || kv.Mod > rev || i > 0 && base[i-1].Key >= kv.Key {
			return false
		}
	}
	if len(base) < api.MaxKeys {
		return rev != 1 || len(base) > 0 // all revisions but the first can end with a deletion, and those ahead of it have put what is deleted
	}
	return len(base) == api.MaxKeys && couldBeFull(base, rev)
}

// couldBePut tells whether a key can be like that: each Version of it took a revision.
func couldBePut(kv api.KV) bool {
	age := kv.Mod - kv.Create
	return isKey(kv.Key) && len(kv.Value) <= api.MaxValue && kv.Create > 0 && age >= 0 && kv.Version > min(age, 1) && kv.Version <= age+1
}

// couldBeFull tells whether MaxKeys keys can have made all revisions from the one on in which the last of them was created: other keys had no room by then, and none of these went. What a key's Version says of Puts ahead of its Mod may fall on any revisions ahead of that.
func couldBeFull(base []api.KV, rev int) bool {
	full := 0
	for _, kv := range base {
		full = max(full, kv.Create)
	}
	base = slices.Clone(base)
	slices.SortFunc(base, func(a, b api.KV) int { return cmp.Compare(b.Mod, a.Mod) })
	next, spare := rev, 0 // the last revision that is not made yet, and how many Puts may fall on it and those ahead of it
	for _, kv := range base {
		if kv.Mod <= full {
			break
		}
		spare -= max(next-kv.Mod, 0)
		if spare < 0 {
			return false
		}
		next = kv.Mod - 1
		spare = min(spare+kv.Version-2, rev)
	}
	return spare >= next-full
}
