package machine

import (
	"cmp"
	"maps"
	"math"
	"slices"

	"horologe/api"
)

// never is by when a key went that is there still.
const never = math.MaxInt

// fact is a key as it was, and the last revision at whose end it is known to have been so.
type fact struct {
	kv    api.KV
	still int
}

// span is revisions of which something is known of a key; the last one too.
type span struct {
	key      string
	from, to int
}

func (s span) has(rev int) bool { return s.from <= rev && rev <= s.to }

// life is the revisions, from the one on that created a key, at whose ends it is known to have been there.
type life struct {
	span
	lease     int // when it was told last
	since, by int // the first and the last revision by which it can have gone
}

// ended tells whether the key is not there any more, or has come anew.
func (x *life) ended() bool { return x.by != never }

// mayGoBy tells whether a life can have ended, or its key have been put once more, by a revision.
func (x *life) mayGoBy(rev int) bool { return x.ended() && x.since <= rev && rev <= x.by }

// mustGoBy tells whether a life must have ended by some revisions.
func (x *life) mustGoBy(from, to int) bool { return x.since >= from && x.by <= to }

// loose is n puts of a key, being there, each by another one of some revisions.
type loose struct {
	span
	n int
}

// lives is what is known of keys in a past that is forgotten.
type lives struct {
	facts   map[string][]fact // of each key, in the order in which they came true
	all     []*life           // by keys, then in order
	created []span            // of one revision each, which created the key
	puts    []span            // by each of whose revisions the key was put, being there
	loose   []loose
}

// ordered brings facts in order, and tells whether each can have come true behind the one ahead of it.
func (l *lives) ordered() bool {
	for _, key := range slices.Sorted(maps.Keys(l.facts)) {
		slices.SortFunc(l.facts[key], func(a, b fact) int {
			return cmp.Or(cmp.Compare(a.kv.Mod, b.kv.Mod), cmp.Compare(a.still, b.still))
		})
		if !l.lived(l.facts[key]) {
			return false
		}
	}
	return true
}

// lived makes the lives of a key out of its facts, if they can be.
func (l *lives) lived(facts []fact) bool {
	var x *life
	var last fact
	for i, f := range facts {
		if i > 0 && !follows(last, f) {
			return false
		}
		if i == 0 || last.kv.Create != f.kv.Create {
			if i > 0 {
				x.by = f.kv.Create - 1
			}
			x = &life{span: span{f.kv.Key, f.kv.Create, f.kv.Create}, by: never}
			l.all, l.created = append(l.all, x), append(l.created, x.span)
			last = fact{api.KV{Create: x.from, Mod: x.from, Version: 1}, x.from}
		}
		l.putBetween(last, f)
		x.to, x.lease = f.still, f.kv.Lease
		last = f
	}
	return true
}

// follows tells whether a key that was as a says can be as b says later on.
func follows(a, b fact) bool {
	switch {
	case a.kv.Mod == b.kv.Mod:
		return a.kv == b.kv
	case a.kv.Create == b.kv.Create:
		puts := b.kv.Version - a.kv.Version
		return puts >= 1 && puts <= b.kv.Mod-a.still
	}
	return b.kv.Create > a.still+1 // a revision in which it went lies between
}

// putBetween notes the puts of a key from a on, up to b: by which revisions they were is known, if there are no more of these than its Version needs.
func (l *lives) putBetween(a, b fact) {
	if a.kv.Mod == b.kv.Mod {
		return
	}
	from := b.kv.Mod
	switch n := b.kv.Version - a.kv.Version - 1; n {
	case from - 1 - a.still:
		from = a.still + 1
	case 0:
	default:
		l.loose = append(l.loose, loose{span{b.kv.Key, a.still + 1, from - 1}, n})
	}
	l.puts = append(l.puts, span{b.kv.Key, from, b.kv.Mod})
}

// behind tells the lives of all keys from one on.
func (l *lives) behind(key string) []*life {
	first, _ := slices.BinarySearchFunc(l.all, key, func(x *life, key string) int { return cmp.Compare(x.key, key) })
	return l.all[first:]
}

// between tells the lives of keys that lie between two others.
func (l *lives) between(lo, hi string) []*life {
	all := l.behind(next(lo))
	return all[:max(0, len(all)-len(l.behind(hi)))]
}

// of tells the lives of a key.
func (l *lives) of(key string) []*life {
	return l.behind(key)[:len(l.behind(key))-len(l.behind(next(key)))]
}

// next tells the text that is next behind another one.
func next(key string) string { return key + "\x00" }

// known tells how many of some keys are known to have been there at the end of a revision.
func known(lives []*life, rev int) int {
	n := 0
	for _, x := range lives {
		if x.has(rev) {
			n++
		}
	}
	return n
}

// crowd tells how many spans, at most, have a revision in common.
func crowd(spans []span) int {
	var from, to []int
	for _, s := range spans {
		from, to = append(from, s.from), append(to, s.to)
	}
	slices.Sort(from)
	slices.Sort(to)
	most, over := 0, 0
	for i, rev := range from {
		for to[over] < rev {
			over++
		}
		most = max(most, i+1-over)
	}
	return most
}

// leased tells when each lease is known to have been there, as keys had it: the spans of one have no revision in common.
func (l *lives) leased() []span {
	all := map[int][]span{}
	for _, facts := range l.facts {
		for _, f := range facts {
			if f.kv.Lease != 0 {
				all[f.kv.Lease] = append(all[f.kv.Lease], span{from: f.kv.Mod, to: f.still})
			}
		}
	}
	var apart []span
	for _, spans := range all {
		apart = append(apart, joined(spans)...)
	}
	return apart
}

// joined makes one of spans that have a revision in common.
func joined(spans []span) []span {
	slices.SortFunc(spans, func(a, b span) int { return cmp.Compare(a.from, b.from) })
	var all []span
	for _, s := range spans {
		if n := len(all); n > 0 && s.from <= all[n-1].to {
			all[n-1].to = max(all[n-1].to, s.to)
		} else {
			all = append(all, s)
		}
	}
	return all
}
