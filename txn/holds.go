package txn

import (
	"cmp"

	"horologe/api"
	"horologe/mvcc"
)

// holds tells whether a comparison does.
func holds(s *mvcc.Store, c api.If) bool {
	order, is := compared(now(s, c.Key), c)
	if !is {
		return false
	}
	switch c.Sign {
	case api.SEqual:
		return order == 0
	case api.SUnlike:
		return order != 0
	case api.SLess:
		return order < 0
	case api.SGreater:
		return order > 0
	}
	return false
}

// now tells a key as it is, all zero if it is not there.
func now(s *mvcc.Store, key string) api.KV {
	kvs, _, _ := s.Range(key, "", 0, 1) // the present is always to be told
	if len(kvs) == 0 {
		return api.KV{}
	}
	return kvs[0]
}

// compared tells how what a comparison's Target names lies to what it is held against; false, if there is no such Target.
func compared(kv api.KV, c api.If) (int, bool) {
	n := 0
	switch c.Target {
	case api.TVersion:
		n = kv.Version
	case api.TCreate:
		n = kv.Create
	case api.TMod:
		n = kv.Mod
	case api.TLease:
		n = kv.Lease
	case api.TValue:
		return cmp.Compare(kv.Value, c.Text), true
	default:
		return 0, false
	}
	return cmp.Compare(n, c.N), true
}
