package machine

import (
	"horologe/api"
	"horologe/folk"
	"horologe/lease"
	"horologe/pen"
)

// Save tells a frame of all but the store, which always has room for that: of 64 replies none tells more than some 2^16 bytes; behind it the store, whose bytes have a sum of their own.
func (m *Machine) Save() []byte {
	m.begin()
	return append(pen.Frame(m.rest()), m.store.Save()...)
}

// rest tells the clock, the leases (how many; each), the clients (how many; each).
func (m *Machine) rest() []byte {
	w := pen.NewWriter()
	w.Int(m.clock)
	writeList(w, m.leases.All(), writeLease)
	writeList(w, m.calls.All(), writeRow)
	return w.Done()
}

func writeList[T any](w *pen.Writer, list []T, write func(*pen.Writer, T)) {
	w.U32(len(list))
	for _, x := range list {
		write(w, x)
	}
}

// writeLease tells when a lease was granted or renewed, not when it ends: so it can be granted again.
func writeLease(w *pen.Writer, l lease.Lease) {
	w.Int(l.Id)
	w.Int(l.TTL)
	w.Int(since(l))
}

func since(l lease.Lease) int { return l.Until - l.TTL }

func writeRow(w *pen.Writer, row folk.Row) {
	w.Int(row.Client)
	w.Int(row.Seq)
	writeReply(w, row.Reply)
}

func writeReply(w *pen.Writer, r api.Reply) {
	w.Int(int(r.Err))
	w.Int(r.Rev)
	then := 0
	if r.Then {
		then = 1
	}
	w.U8(then)
	writeList(w, r.Results, writeResult)
	w.Int(r.Time)
}

func writeResult(w *pen.Writer, r api.Result) {
	w.Int(r.N)
	writeList(w, r.KVs, writeKV)
}

func writeKV(w *pen.Writer, kv api.KV) {
	w.Text(kv.Key)
	w.Text(kv.Value)
	w.Int(kv.Create)
	w.Int(kv.Mod)
	w.Int(kv.Version)
	w.Int(kv.Lease)
}
