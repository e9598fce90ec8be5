package mvcc

import (
	"horologe/api"
	"horologe/index"
)

// place is where a change stands: a revision changes a key once at most.
type place struct {
	rev int
	key string
}

// change is what was done to a key: a put or a deletion.
type change interface {
	save(b []byte) []byte // puts its bytes behind b
}

// put is the key as it was from then on.
type put api.KV

type deletion struct {
	key string
}

// lay makes a change at a revision that is behind all of its key.
func (s *Store) lay(p place, c change) {
	_, is := c.(put)
	s.index.Put(p.key, index.Mark{Rev: p.rev, Del: !is})
	s.changes[p] = c
	if is {
		s.there[p.key] = p.rev
	} else {
		delete(s.there, p.key)
	}
}

// forget takes away a key's changes up to rev, but the one by which it is seen at rev. The index must know them still.
func (s *Store) forget(key string, rev int) {
	stays := s.lastPut(key, rev)
	for _, m := range s.index.Marks(key) {
		if m.Rev <= rev && m.Rev != stays {
			delete(s.changes, place{m.Rev, key})
		}
	}
}
