package mvcc

import (
	"slices"
	"strings"

	"horologe/api"
)

// Write is one: what it does stands in it alone, till it is done.
type Write struct {
	store   *Store
	keys    []string          // that it changed, in order
	changes map[string]change // of these keys
	count   int               // how many keys are there behind it
}

// isOpen says no of a write that was done, or forgotten.
func (w *Write) isOpen() bool { return w.store != nil && w.store.open == w }

func (w *Write) Put(key, value string, lease int) api.Errno {
	switch {
	case !w.isOpen():
		return api.ErrStale
	case !isKey(key) || lease < 0:
		return api.ErrArg
	case len(value) > api.MaxValue:
		return api.ErrLong
	case w.changes[key] != nil:
		return api.ErrTwice
	}
	was, there := w.look(key)
	if !there {
		if w.count >= api.MaxKeys {
			return api.ErrFull
		}
		was.Create = w.rev()
		w.count++
	}
	key, value = strings.Clone(key), strings.Clone(value) // they may be pieces of a long text, which would be kept with them
	w.note(key, put{Key: key, Value: value, Create: was.Create, Mod: w.rev(), Version: was.Version + 1, Lease: lease})
	return api.OK
}

func (w *Write) Delete(lo, hi string) int {
	if !w.isOpen() {
		return 0
	}
	n := 0
	for _, key := range w.store.keys(lo, hi) {
		if w.changes[key] != nil || w.store.there[key] == 0 {
			continue
		}
		w.note(key, deletion{key})
		n++
	}
	w.count -= n
	return n
}

func (w *Write) Range(lo, hi string, limit int) ([]api.KV, int) {
	if !w.isOpen() {
		return nil, 0
	}
	keys := w.store.keys(lo, hi)
	for _, key := range w.keys {
		if within(key, lo, hi) {
			keys = append(keys, key)
		}
	}
	slices.Sort(keys)
	return tell(slices.Compact(keys), limit, w.look)
}

func (w *Write) Done() int {
	if w.store == nil {
		return 0
	}
	if w.isOpen() {
		w.store.take(w)
		w.store.open = nil
	}
	return w.store.rev
}

// rev tells the revision that this write will make.
func (w *Write) rev() int { return w.store.rev + 1 }

// look tells a key as it is behind what was done, if it is there.
func (w *Write) look(key string) (api.KV, bool) {
	c := w.changes[key]
	if c == nil {
		return w.store.at(key, w.store.rev)
	}
	kv, is := c.(put)
	return api.KV(kv), is
}

func (w *Write) note(key string, c change) {
	w.keys = append(w.keys, key)
	w.changes[key] = c
}

// take does what a write has noted.
func (s *Store) take(w *Write) {
	if len(w.keys) == 0 {
		return
	}
	s.rev++
	s.log[s.rev] = w.keys
	for _, key := range w.keys {
		s.lay(place{s.rev, key}, w.changes[key])
	}
}
