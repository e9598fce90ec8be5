package machine

import (
	"slices"

	"horologe/api"
)

// window is between which results of a transaction it put a key.
type window struct {
	behind, ahead int
}

// windows tells that of each key that a revision put, as far as the transaction's own results tell it.
func windows(spans []span, r api.Reply) []window {
	var all []window
	for _, s := range spans {
		if !s.has(r.Rev) {
			continue
		}
		w := window{-1, len(r.Results)}
		for i, x := range r.Results {
			at, told := slices.BinarySearchFunc(x.KVs, s.key, byKey)
			switch {
			case told && x.KVs[at].Mod == r.Rev:
				w.ahead = min(w.ahead, i)
			case told || at > 0 && at < len(x.KVs): // as it was, or passed over
				w.behind = i
			}
		}
		all = append(all, w)
	}
	return all
}

// fit tells whether each window has an operation of its own that was answered by n: of those that can be the one, the first to close takes it.
func fit(windows []window, results []api.Result, n int) bool {
	for i, x := range results {
		if len(x.KVs) > 0 || x.N != n {
			continue
		}
		next := -1
		for j, w := range windows {
			if w.behind < i && i < w.ahead && (next < 0 || w.ahead < windows[next].ahead) {
				next = j
			}
		}
		if next >= 0 {
			windows = slices.Delete(windows, next, next+1)
		}
	}
	return len(windows) == 0
}

// foundMore tells whether the transaction that made a revision found more keys than can be there at its end, and than it can have deleted later on.
func (o *old) foundMore(r api.Reply, puts []window) bool {
	left, slots := changed(r), 0
	for i, x := range r.Results {
		if len(x.KVs) > 0 {
			if o.gone(x, r.Rev) > left-laterPuts(puts, i, slots) {
				return true
			}
			continue
		}
		if left -= x.N; x.N == 1 {
			slots++
		}
	}
	return false
}

// gone tells how many keys, at least, a result found that are not there at the revision's end.
func (o *old) gone(x api.Result, rev int) int {
	if rev < o.rev {
		return x.N - o.most.keys
	}
	n := 0
	for _, kv := range x.KVs {
		if _, there := o.base.kvs[kv.Key]; !there {
			n++
		}
	}
	at, _ := slices.BinarySearch(o.base.keys, x.KVs[0].Key)
	return max(n, x.N-(len(o.base.keys)-at))
}

// laterPuts tells how many puts, at least, come behind a result: those of which it tells the key as it was, and those for which there were not slots enough ahead of it.
func laterPuts(puts []window, result, slots int) int {
	n := 0
	for _, w := range puts {
		if w.behind >= result {
			n++
		}
	}
	return max(n, len(puts)-slots)
}
