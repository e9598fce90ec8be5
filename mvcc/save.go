package mvcc

import "horologe/api"

// The number that a change's bytes begin with.
const (
	putMark      = 0
	deletionMark = 1
)

// Save tells Compacted(), the keys that were there then (how many; each), how many revisions are behind it, the changes of each (how many; each), and a sum of all that. So no store's bytes are the front of another one's.
func (s *Store) Save() []byte {
	b := appendNumber(nil, s.compacted)
	base := s.base()
	b = appendNumber(b, len(base))
	for _, kv := range base {
		b = appendKV(b, kv)
	}
	b = appendNumber(b, s.rev-s.compacted)
	for r := s.compacted + 1; r <= s.rev; r++ {
		b = appendNumber(b, len(s.log[r]))
		for _, key := range s.log[r] {
			b = s.changes[place{r, key}].save(b)
		}
	}
	sum := sumOf(b)
	return append(b, sum[:]...)
}

// base tells the keys that were there at compacted: of what was done up to then nothing else is known.
func (s *Store) base() []api.KV {
	if s.compacted == 0 {
		return nil
	}
	base, _ := tell(s.index.Keys("", ""), 0, func(key string) (api.KV, bool) { return s.at(key, s.compacted) })
	return base
}

func appendKV(b []byte, kv api.KV) []byte {
	b = appendText(b, kv.Key)
	b = appendText(b, kv.Value)
	b = appendNumber(b, kv.Create)
	b = appendNumber(b, kv.Mod)
	b = appendNumber(b, kv.Version)
	return appendNumber(b, kv.Lease)
}

// save leaves out what a write knows by itself: Create, Mod, Version.
func (p put) save(b []byte) []byte {
	b = appendNumber(b, putMark)
	b = appendText(b, p.Key)
	b = appendText(b, p.Value)
	return appendNumber(b, p.Lease)
}

func (d deletion) save(b []byte) []byte {
	return appendText(appendNumber(b, deletionMark), d.key)
}
