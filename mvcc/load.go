package mvcc

import (
	"bytes"

	"horologe/api"
)

// revBound is where DOC.md's limits end the revisions.
const revBound = 1 << 62

func Load(b []byte) (*Store, api.Errno) {
	end := len(b) - sumSize
	if end < 0 {
		return nil, api.ErrBad
	}
	sum := sumOf(b[:end])
	r, s := &reader{left: b[:end]}, New()
	if !bytes.Equal(sum[:], b[end:]) || !r.base(s) || !r.revisions(s) || len(r.left) > 0 {
		return nil, api.ErrBad
	}
	return s, api.OK
}

// base lays the keys that were there at compacted into a new store, and tells whether some store is like that.
func (r *reader) base(s *Store) bool {
	s.compacted = r.number()
	s.rev = s.compacted
	var base []api.KV
	for left := r.number(); left > 0 && !r.bad; left-- {
		base = append(base, r.kv())
	}
	if r.bad || s.rev >= revBound || !couldBe(base, s.rev) {
		return false
	}
	for _, kv := range base {
		s.lay(place{kv.Mod, kv.Key}, put(kv))
	}
	return true
}

func (r *reader) kv() api.KV {
	return api.KV{Key: r.text(), Value: r.text(), Create: r.number(), Mod: r.number(), Version: r.number(), Lease: r.number()}
}

// revisions does the changes again, by writes: what no write would do is in no store.
func (r *reader) revisions(s *Store) bool {
	left := r.number()
	if r.bad || left >= revBound-s.rev {
		return false
	}
	for ; left > 0; left-- {
		if !r.revision(s) {
			return false
		}
	}
	return true
}

func (r *reader) revision(s *Store) bool {
	left := r.number()
	if left == 0 {
		return false
	}
	w := s.Write()
	for ; left > 0; left-- {
		if !r.change(w) {
			return false
		}
	}
	w.Done()
	return true
}

// change tells whether a write did what is read.
func (r *reader) change(w *Write) bool {
	switch r.number() {
	case putMark:
		key, value, lease := r.text(), r.text(), r.number()
		return !r.bad && w.Put(key, value, lease) == api.OK
	case deletionMark:
		return w.Delete(r.text(), "") == 1
	}
	return false
}
