package mvcc

import (
	"sort"

	"horologe/api"
)

// isKey tells whether a text may be a key.
func isKey(text string) bool { return len(text) > 0 && len(text) <= api.MaxKey }

// within tells whether a key is one of the range from lo to hi.
func within(key, lo, hi string) bool {
	if hi == "" {
		return key == lo
	}
	return lo <= key && key < hi
}

// keys tells those of a range that have marks, whether they are there or not.
func (s *Store) keys(lo, hi string) []string {
	if s.index == nil {
		return nil
	}
	if hi == "" {
		hi = lo + "\x00" // nothing lies between them; the index would go on to its end
	}
	return s.index.Keys(lo, hi)
}

// tell looks at keys, and tells the first limit ones that are there (below 1: all), and how many are.
func tell(keys []string, limit int, look func(key string) (api.KV, bool)) ([]api.KV, int) {
	var found []api.KV
	n := 0
	for _, key := range keys {
		kv, there := look(key)
		if !there {
			continue
		}
		n++
		if limit < 1 || n <= limit {
			found = append(found, kv)
		}
	}
	return found, n
}

// at tells a key as it was at a revision, if it was there.
func (s *Store) at(key string, rev int) (api.KV, bool) {
	mod := s.lastPut(key, rev)
	if mod == 0 {
		return api.KV{}, false
	}
	return api.KV(s.changes[place{mod, key}].(put)), true // lastPut tells no revision of a deletion
}

// lastPut tells the revision in which a key was put that was there at rev; 0, if it was not there.
func (s *Store) lastPut(key string, rev int) int {
	if rev == s.rev {
		return s.there[key] // asked for most of the time, and a key may have many marks
	}
	marks := s.index.Marks(key)
	behind := sort.Search(len(marks), func(i int) bool { return marks[i].Rev > rev })
	if behind == 0 || marks[behind-1].Del {
		return 0
	}
	return marks[behind-1].Rev
}

// event tells a change as Since does.
func (s *Store) event(p place) api.Event {
	if kv, is := s.changes[p].(put); is {
		return api.Event{Rev: p.rev, KV: api.KV(kv)}
	}
	return api.Event{Rev: p.rev, Del: true, KV: api.KV{Key: p.key, Mod: p.rev}}
}
