package txn

import (
	"horologe/api"
	"horologe/mvcc"
)

// What a transaction tells is bounded, as a node keeps it for whoever asks again.
const (
	maxTold = 1 << 16 // bytes
	perKV   = 40      // what a key's numbers count for
)

// doAll does a branch's operations. How much they tell is looked at behind all of them: what one of them is refused for is named ahead of it.
func doAll(w *mvcc.Write, l Leases, ops []api.Op) ([]api.Result, api.Errno) {
	results := make([]api.Result, len(ops))
	told := 0
	for i, op := range ops {
		r, err := do(w, l, op)
		if err != api.OK {
			return nil, err
		}
		told += size(r.KVs)
		results[i] = r
	}
	if told > maxTold {
		return nil, api.ErrLong
	}
	return results, api.OK
}

// do does one operation that checkOp allows.
func do(w *mvcc.Write, l Leases, op api.Op) (api.Result, api.Errno) {
	switch op.Kind {
	case api.OPut:
		return put(w, l, op)
	case api.ODelete:
		return api.Result{N: w.Delete(op.Key, op.End)}, api.OK
	}
	kvs, n := w.Range(op.Key, op.End, op.Limit)
	return api.Result{N: n, KVs: kvs}, api.OK
}

func put(w *mvcc.Write, l Leases, op api.Op) (api.Result, api.Errno) {
	if op.Lease != 0 && (l == nil || !l.Has(op.Lease)) {
		return api.Result{}, api.ErrLease
	}
	_, there := w.Range(op.Key, "", 1)
	return api.Result{N: there}, w.Put(op.Key, op.Value, op.Lease)
}

// size tells how much keys count for.
func size(kvs []api.KV) int {
	n := 0
	for _, kv := range kvs {
		n += len(kv.Key) + len(kv.Value) + perKV
	}
	return n
}
