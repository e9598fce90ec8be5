package machine

import (
	"slices"
	"strings"

	"horologe/api"
	"horologe/mvcc"
	"horologe/txn"
)

// maxTime is how far the clock goes: leases are promised up to there.
const maxTime = 1 << 40

// do does a command; its reply lacks Rev and Time, which are the same thing for all kinds.
func (m *Machine) do(c command) api.Reply {
	switch c := c.(type) {
	case transaction:
		then, results, err := txn.Do(m.store, m.leases, c.Txn)
		return api.Reply{Err: err, Then: then, Results: results}
	case grant:
		return api.Reply{Err: m.leases.Grant(c.id, c.ttl, m.clock)}
	case renewal:
		return api.Reply{Err: m.leases.Renew(c.id, m.clock)}
	case revocation:
		return api.Reply{Err: m.revoke(c.id)}
	case setting:
		return api.Reply{Err: m.set(c.time)}
	case expiry:
		m.expire()
		return api.Reply{}
	case compaction:
		return api.Reply{Err: m.store.Compact(c.rev)}
	}
	return api.Reply{Err: api.ErrKind}
}

func (m *Machine) revoke(id int) api.Errno {
	if err := m.leases.Revoke(id); err != api.OK {
		return err
	}
	m.drop(id)
	return api.OK
}

// expire drops the keys of all leases together: one by one they would make a revision each.
func (m *Machine) expire() {
	over := m.leases.Over(m.clock)
	for _, id := range over {
		m.leases.Revoke(id)
	}
	m.drop(over...)
}

func (m *Machine) set(time int) api.Errno {
	if !isTime(time) {
		return api.ErrArg
	}
	m.clock = max(m.clock, time)
	return api.OK
}

func isTime(n int) bool { return n >= 0 && n <= maxTime }

// drop deletes all keys with one of these leases, whose ids rise.
func (m *Machine) drop(ids ...int) {
	if len(ids) == 0 {
		return // most of the time, and there may be many keys
	}
	w := m.store.Write()
	for _, kv := range keys(m.store) {
		if _, found := slices.BinarySearch(ids, kv.Lease); found {
			w.Delete(kv.Key, "")
		}
	}
	w.Done()
}

// keys tells all that are there, rising.
func keys(s *mvcc.Store) []api.KV {
	all, _, _ := s.Range("", beyond(), 0, 0) // the present is always to be told
	return all
}

// beyond lies behind all that can be a key.
func beyond() string { return strings.Repeat("\xff", api.MaxKey+1) }
