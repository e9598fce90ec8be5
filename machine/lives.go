package machine

import (
	"cmp"
	"maps"
	"slices"

	"horologe/api"
)

// fact is a key as it was, and the last revision at whose end it is known to have been so.
type fact struct {
	kv    api.KV
	still int
}

// span is revisions of which something is known of a key; the last one too.
type span struct {
	key      string
	from, to int
}

func (s span) has(rev int) bool { return s.from <= rev && rev <= s.to }

// lives is what is known of keys in a past that is forgotten.
type lives struct {
	keys    []string          // of which something is known, rising
	facts   map[string][]fact // in the order in which they came true
	there   map[string][]span // from when to when a key was there, as far as that is known
	created []span            // of one revision each, which created the key
	puts    []span            // by each of whose revisions the key was put, being there
	hidden  bool              // whether there were puts of which no revision is known
}

// ordered brings facts in order, and tells whether each can have come true behind the one ahead of it.
func (l *lives) ordered() bool {
	l.keys, l.there = slices.Sorted(maps.Keys(l.facts)), map[string][]span{}
	for _, key := range l.keys {
		slices.SortFunc(l.facts[key], func(a, b fact) int {
			return cmp.Or(cmp.Compare(a.kv.Mod, b.kv.Mod), cmp.Compare(a.still, b.still))
		})
		if !l.lived(key) {
			return false
		}
	}
	return true
}

func (l *lives) lived(key string) bool {
	var spans []span
	var last fact
	for i, f := range l.facts[key] {
		if i > 0 && !follows(last, f) {
			return false
		}
		if i == 0 || last.kv.Create != f.kv.Create {
			last = fact{api.KV{Key: key, Create: f.kv.Create, Mod: f.kv.Create, Version: 1}, f.kv.Create}
			spans = append(spans, span{key, f.kv.Create, f.kv.Create})
			l.created = append(l.created, span{key, f.kv.Create, f.kv.Create})
		}
		l.putBetween(last, f)
		spans[len(spans)-1].to = f.still
		last = f
	}
	l.there[key] = spans
	return true
}

// follows tells whether a key that was as a says can be as b says later on.
func follows(a, b fact) bool {
	switch {
	case a.kv.Mod == b.kv.Mod:
		return a.kv == b.kv
	case a.kv.Create == b.kv.Create:
		puts := b.kv.Version - a.kv.Version
		return puts >= 1 && puts <= b.kv.Mod-a.still
	}
	return b.kv.Create > a.still+1 // a revision in which it went lies between
}

// putBetween notes the revisions by which a key is known to have been put from a on, up to b: all of them, if they are no more than its Version needs.
func (l *lives) putBetween(a, b fact) {
	switch {
	case a.kv.Mod == b.kv.Mod:
	case b.kv.Version-a.kv.Version == b.kv.Mod-a.still:
		l.puts = append(l.puts, span{b.kv.Key, a.still + 1, b.kv.Mod})
	default:
		l.puts = append(l.puts, span{b.kv.Key, b.kv.Mod, b.kv.Mod})
		l.hidden = l.hidden || b.kv.Version-a.kv.Version > 1
	}
}

// tooMany tells whether a revision is known to have put more keys than a transaction can, or more keys to have been there than there is room for.
func (l *lives) tooMany() bool {
	var there []span
	for _, spans := range l.there {
		there = append(there, spans...)
	}
	return crowd(slices.Concat(l.created, l.puts)) > api.MaxOps || crowd(there) > api.MaxKeys
}

// known tells how many keys are known to have been there at the end of a revision.
func (l *lives) known(rev int) int {
	n := 0
	for _, spans := range l.there {
		if slices.ContainsFunc(spans, func(s span) bool { return s.has(rev) }) {
			n++
		}
	}
	return n
}

// crowd tells how many spans, at most, have a revision in common.
func crowd(spans []span) int {
	var from, to []int
	for _, s := range spans {
		from, to = append(from, s.from), append(to, s.to)
	}
	slices.Sort(from)
	slices.Sort(to)
	most, over := 0, 0
	for i, rev := range from {
		for to[over] < rev {
			over++
		}
		most = max(most, i+1-over)
	}
	return most
}

// gaps tells how many revisions, up to rev, no span has, and how many spans have each of the others, at least.
func gaps(spans []span, rev int) (none, least int) {
	steps := map[int]int{1: 0, rev + 1: 0}
	for _, s := range spans {
		steps[s.from]++
		steps[s.to+1]--
	}
	least = len(spans)
	at, n := 1, 0
	for _, next := range slices.Sorted(maps.Keys(steps)) {
		switch {
		case n == 0:
			none += next - at
		case next > at:
			least = min(least, n)
		}
		at, n = next, n+steps[next]
	}
	return none, least
}

// passesOver tells whether keys that were told one behind the other at a revision have one between them that was there; it may be one that the revision created, if that was found made.
func (l *lives) passesOver(kvs []api.KV, rev int, made bool) bool {
	for i := 1; i < len(kvs); i++ {
		at, _ := slices.BinarySearch(l.keys, kvs[i-1].Key)
		for at++; l.keys[at] != kvs[i].Key; at++ {
			if slices.ContainsFunc(l.there[l.keys[at]], func(s span) bool { return s.has(rev) && (made || s.from < rev) }) {
				return true
			}
		}
	}
	return false
}
