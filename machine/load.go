package machine

import (
	"bytes"

	"horologe/api"
	"horologe/folk"
	"horologe/lease"
	"horologe/mvcc"
	"horologe/pen"
)

// What a transaction's ranges tell has at most maxTold bytes: of each key its own, its value's, and kvSize.
const (
	maxTold = 1 << 16
	kvSize  = 40
)

func Load(b []byte) (*Machine, api.Errno) {
	rest, size, err := pen.Unframe(b)
	if err != api.OK {
		return nil, api.ErrBad
	}
	store, err := mvcc.Load(b[size:])
	if err != api.OK {
		return nil, api.ErrBad
	}
	m := New()
	m.store = store
	m.read(pen.NewReader(rest))
	if !m.couldBe() || !bytes.Equal(m.rest(), rest) {
		return nil, api.ErrBad
	}
	return m, api.OK
}

// read lays what rest told into a new machine. What lacks, is too much, or is refused need not be looked for: rest will tell other bytes then.
func (m *Machine) read(r *pen.Reader) {
	m.clock = r.Int()
	for _, l := range readList(r, r.U32(), readLease) {
		m.leases.Grant(l.Id, l.TTL, since(l))
	}
	for _, row := range readList(r, r.U32(), readRow) {
		m.calls.Note(row.Client, row.Seq, row.Reply)
	}
}

func readLease(r *pen.Reader) lease.Lease {
	l := lease.Lease{Id: r.Int(), TTL: r.Int()}
	l.Until = l.TTL + r.Int()
	return l
}

func readRow(r *pen.Reader) folk.Row {
	return folk.Row{Client: r.Int(), Seq: r.Int(), Reply: readReply(r)}
}

func readReply(r *pen.Reader) api.Reply {
	return api.Reply{Err: api.Errno(r.Int()), Rev: r.Int(), Then: r.U8() == 1, Results: readList(r, r.U32(), readResult), Time: r.Int()}
}

func readResult(r *pen.Reader) api.Result {
	return api.Result{N: r.Int(), KVs: readList(r, r.U32(), readKV)}
}

func readKV(r *pen.Reader) api.KV {
	return api.KV{Key: r.Text(), Value: r.Text(), Create: r.Int(), Mod: r.Int(), Version: r.Int(), Lease: r.Int()}
}

// couldBe tells whether commands can have left all parts of a machine so, side by side.
func (m *Machine) couldBe() bool {
	if !isTime(m.clock) {
		return false
	}
	for _, l := range m.leases.All() {
		if since(l) < 0 || since(l) > m.clock {
			return false
		}
	}
	for _, kv := range keys(m.store) {
		if kv.Lease != 0 && !m.leases.Has(kv.Lease) {
			return false
		}
	}
	for _, row := range m.calls.All() {
		if !m.couldAnswer(row.Reply) {
			return false
		}
	}
	return m.couldBeDone()
}

// couldAnswer tells whether a reply can be one of this machine's, whatever its keys were: what was refused, for whatever a command can be, tells nothing else.
func (m *Machine) couldAnswer(r api.Reply) bool {
	if r.Rev < 0 || r.Rev > m.store.Rev() || r.Time < 0 || r.Time > m.clock {
		return false
	}
	switch r.Err {
	case api.OK:
		return couldTell(r.Results)
	case api.ErrPast:
		if r.Rev == 0 || m.store.Compacted() == 0 {
			return false
		}
		fallthrough
	case api.ErrArg, api.ErrNone, api.ErrKind, api.ErrMany, api.ErrLong, api.ErrIs, api.ErrFull, api.ErrFuture, api.ErrTwice, api.ErrLease:
		return !r.Then && len(r.Results) == 0
	}
	return false
}

// couldTell tells whether a transaction's results are no more than they may be.
func couldTell(results []api.Result) bool {
	size := 0
	for _, r := range results {
		if r.N < len(r.KVs) {
			return false
		}
		for _, kv := range r.KVs {
			size += len(kv.Key) + len(kv.Value) + kvSize
		}
	}
	return len(results) <= api.MaxOps && size <= maxTold
}
