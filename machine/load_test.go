package machine

import (
	"bytes"
	"math"
	"slices"
	"testing"

	"horologe/api"
	"horologe/folk"
	"horologe/lease"
	"horologe/mvcc"
	"horologe/pen"
)

// parts is what a machine's bytes say, whether a machine can be so or not.
type parts struct {
	clock  int
	leases []lease.Lease
	rows   []folk.Row
	store  *mvcc.Store
}

// body tells the bytes that stand in the frame.
func (p parts) body() []byte {
	w := pen.NewWriter()
	w.Int(p.clock)
	writeList(w, p.leases, writeLease)
	writeList(w, p.rows, writeRow)
	return w.Done()
}

func (p parts) bytes() []byte { return sealed(p.body(), p.store) }

// sealed lays a body into its frame, and a store behind it (nil: a new one).
func sealed(body []byte, s *mvcc.Store) []byte {
	if s == nil {
		s = mvcc.New()
	}
	return append(pen.Frame(body), s.Save()...)
}

// taken tells whether Load takes bytes, which must then be those that Save tells.
func taken(t *testing.T, b []byte) bool {
	t.Helper()
	m, err := Load(b)
	switch {
	case err == api.OK && !bytes.Equal(m.Save(), b):
		t.Fatalf("%.200x was taken, but Save tells %.200x", b, m.Save())
	case err != api.OK && (err != api.ErrBad || m != nil):
		t.Fatalf("%.200x: %v, %v", b, m != nil, err)
	}
	return err == api.OK
}

// at is a lease that was granted or renewed then.
func at(id, ttl, now int) lease.Lease { return lease.Lease{Id: id, TTL: ttl, Until: now + ttl} }

func rowOf(client, seq int, r api.Reply) folk.Row {
	return folk.Row{Client: client, Seq: seq, Reply: r}
}

// stored makes a store of two revisions: b has a lease, a had one.
func stored(now, ahead int) *mvcc.Store {
	s := mvcc.New()
	w := s.Write()
	w.Put("a", "1", ahead)
	w.Put("b", "2", now)
	w.Done()
	w = s.Write()
	w.Put("a", "3", 0)
	w.Done()
	return s
}

func TestP1203WhichLeasesCanBe(t *testing.T) {
	var many []lease.Lease
	for id := 1; id <= 1025; id++ {
		many = append(many, at(id, 1, 0))
	}
	for _, c := range []struct {
		what   string
		clock  int
		leases []lease.Lease
		want   bool
	}{
		{"none", 0, nil, true}, {"a clock", 7, nil, true}, {"the last minute", 1 << 40, nil, true}, {"one more", 1<<40 + 1, nil, false}, {"below 0", -1, nil, false}, {"the least", math.MinInt, nil, false}, {"the greatest", math.MaxInt, nil, false},
		{"one", 7, []lease.Lease{at(1, 1, 0)}, true}, {"of now", 7, []lease.Lease{at(1, 1, 7)}, true}, {"of later", 7, []lease.Lease{at(1, 1, 8)}, false}, {"of ahead of all", 7, []lease.Lease{at(1, 1, -1)}, false}, {"of long ahead of all", 7, []lease.Lease{at(1, 9, math.MinInt)}, false}, {"of long behind all", 7, []lease.Lease{at(1, 9, math.MaxInt)}, false},
		{"of the last minute", 1 << 40, []lease.Lease{at(1<<31-1, 1<<31-1, 1<<40)}, true}, {"of one more", 1<<40 + 1, []lease.Lease{at(1, 1, 1<<40+1)}, false},
		{"id 0", 7, []lease.Lease{at(0, 1, 0)}, false}, {"id -1", 7, []lease.Lease{at(-1, 1, 0)}, false}, {"too great an id", 7, []lease.Lease{at(1<<31, 1, 0)}, false},
		{"TTL 0", 7, []lease.Lease{at(1, 0, 0)}, false}, {"TTL -1", 7, []lease.Lease{at(1, -1, 3)}, false}, {"too great a TTL", 7, []lease.Lease{at(1, 1<<31, 0)}, false}, {"the greatest TTL", 7, []lease.Lease{at(1, math.MaxInt, 7)}, false},
		{"two", 7, []lease.Lease{at(1, 1, 0), at(2, 9, 5)}, true}, {"two, falling", 7, []lease.Lease{at(2, 9, 5), at(1, 1, 0)}, false}, {"one twice", 7, []lease.Lease{at(1, 1, 0), at(1, 1, 0)}, false}, {"one id twice", 7, []lease.Lease{at(1, 1, 0), at(1, 2, 5)}, false}, {"one of two", 7, []lease.Lease{at(1, 1, 0), at(2, 0, 0)}, false},
		{"1024", 0, many[:1024], true}, {"1025", 0, many, false},
	} {
		if got := taken(t, parts{clock: c.clock, leases: c.leases}.bytes()); got != c.want {
			t.Errorf("%s: %v", c.what, got)
		}
	}
}

// TestP1203KeysWithoutTheirLease are in no machine, but ahead of its present.
func TestP1203KeysWithoutTheirLease(t *testing.T) {
	for _, c := range []struct {
		now, ahead int
		ids        []int
		want       bool
	}{
		{0, 0, nil, true}, {0, 0, []int{1, 2}, true}, {1, 0, []int{1}, true}, {1, 0, nil, false}, {1, 0, []int{2}, false}, {2, 1, []int{2}, true}, {2, 1, []int{1}, false}, {0, 1, nil, true}, {1 << 31, 0, []int{1}, false},
	} {
		p := parts{clock: 5, store: stored(c.now, c.ahead)}
		for _, id := range c.ids {
			p.leases = append(p.leases, at(id, 1, 5))
		}
		if got := taken(t, p.bytes()); got != c.want {
			t.Errorf("%+v: %v", c, got)
		}
	}
}

func TestP1203WhichClientsCanBe(t *testing.T) {
	var many []folk.Row
	for client := 1; client <= 65; client++ {
		many = append(many, rowOf(client, 1, api.Reply{}))
	}
	for _, c := range []struct {
		what string
		rows []folk.Row
		want bool
	}{
		{"one", []folk.Row{rowOf(3, 5, api.Reply{Rev: 2, Time: 7})}, true}, {"the greatest", []folk.Row{rowOf(math.MaxInt, math.MaxInt, api.Reply{})}, true},
		{"client 0", []folk.Row{rowOf(0, 5, api.Reply{})}, false}, {"client -1", []folk.Row{rowOf(-1, 5, api.Reply{})}, false}, {"number 0", []folk.Row{rowOf(3, 0, api.Reply{})}, false}, {"number -1", []folk.Row{rowOf(3, -1, api.Reply{})}, false},
		{"two", []folk.Row{rowOf(3, 5, api.Reply{}), rowOf(4, 5, api.Reply{})}, true}, {"falling", []folk.Row{rowOf(4, 5, api.Reply{}), rowOf(3, 5, api.Reply{})}, false}, {"twice", []folk.Row{rowOf(4, 5, api.Reply{}), rowOf(4, 5, api.Reply{})}, false}, {"twice, with another number", []folk.Row{rowOf(4, 5, api.Reply{}), rowOf(4, 6, api.Reply{})}, false},
		{"64", many[:64], true}, {"65", many, false},
	} {
		if got := taken(t, parts{clock: 7, rows: c.rows, store: stored(0, 0)}.bytes()); got != c.want {
			t.Errorf("%s: %v", c.what, got)
		}
	}
}

func TestP1203WhichRepliesCanBe(t *testing.T) {
	told := []api.Result{{N: 1}, {N: 2, KVs: []api.KV{{Key: "a", Value: "3", Create: 1, Mod: 2, Version: 2}}}, {}}
	for _, c := range []struct {
		what  string
		reply api.Reply
		want  bool
	}{
		{"nothing", api.Reply{}, true}, {"of now", api.Reply{Rev: 2, Time: 7}, true}, {"Rev ahead", api.Reply{Rev: 3}, false}, {"Rev below 0", api.Reply{Rev: -1}, false}, {"Time ahead", api.Reply{Time: 8}, false}, {"Time below 0", api.Reply{Time: -1}, false}, {"both ahead", api.Reply{Rev: math.MaxInt, Time: math.MaxInt}, false},
		{"Then", api.Reply{Then: true}, true}, {"results", api.Reply{Then: true, Results: told, Rev: 2, Time: 7}, true}, {"of Else", api.Reply{Results: told, Rev: 2}, true}, {"32", api.Reply{Results: make([]api.Result, 32)}, true}, {"33", api.Reply{Results: make([]api.Result, 33)}, false},
		{"refused, and Then", api.Reply{Err: api.ErrArg, Then: true}, false}, {"refused, with results", api.Reply{Err: api.ErrArg, Results: told}, false},
		{"N below 0", api.Reply{Rev: 1, Results: []api.Result{{N: -1}}}, false}, {"the least N", api.Reply{Rev: 1, Results: []api.Result{{N: math.MinInt}, {N: math.MaxInt}, {N: 1}}}, false}, {"the greatest", api.Reply{Rev: 1, Results: []api.Result{{N: math.MaxInt}, {N: math.MaxInt}, {N: 2}}}, false},
		{"ErrPast of what is not compacted", api.Reply{Err: api.ErrPast, Rev: 2}, false}, {"ErrPast at 0", api.Reply{Err: api.ErrPast}, false}, {"ErrFull of two keys", api.Reply{Err: api.ErrFull, Rev: 2}, false},
	} {
		if got := taken(t, parts{clock: 7, rows: []folk.Row{rowOf(3, 5, c.reply)}, store: stored(0, 0)}.bytes()); got != c.want {
			t.Errorf("%s: %v", c.what, got)
		}
	}
	refusals := []api.Errno{api.OK, api.ErrArg, api.ErrNone, api.ErrKind, api.ErrMany, api.ErrLong, api.ErrIs, api.ErrPast, api.ErrFuture, api.ErrTwice, api.ErrLease}
	compacted := stored(0, 0)
	compacted.Compact(1)
	if taken(t, parts{rows: []folk.Row{rowOf(3, 5, api.Reply{Err: api.ErrPast})}, store: compacted}.bytes()) {
		t.Error("ErrPast, when nothing can have been compacted")
	}
	for err := api.Errno(-3); err < 300; err++ {
		reply := api.Reply{Err: err, Rev: 1, Time: 1}
		if got := taken(t, parts{clock: 7, rows: []folk.Row{rowOf(3, 5, reply)}, store: compacted}.bytes()); got != slices.Contains(refusals, err) {
			t.Errorf("%v: %v", err, got)
		}
	}
}

// some is a machine that has something of all.
func some() *Machine {
	m := New()
	put := func(key string, lease int) api.Txn {
		return api.Txn{Then: []api.Op{{Key: key, Value: "v", Lease: lease}, {Kind: api.ORange, Key: "a", End: "z"}}}
	}
	for i, c := range []api.Cmd{{Kind: api.CClock, Time: 3}, {Kind: api.CGrant, Lease: 4, TTL: 5}, {Txn: put("a", 4)}, {Kind: api.CClock, Time: 6}, {Kind: api.CGrant, Lease: 1, TTL: 2}, {Txn: put("b", 1)}, {Txn: put("c", 0)}, {Kind: api.CRenew, Lease: 9}} {
		c.Client, c.Seq = i%3, i+1
		m.Apply(c)
	}
	return m
}

// TestP1203BytesTurnedWithTheirFrame: where the frame is made anew, what is turned is either another machine's or refused.
func TestP1203BytesTurnedWithTheirFrame(t *testing.T) {
	m := some()
	b := m.rest()
	others := 0
	for i := range b {
		for x := range 256 {
			c := bytes.Clone(b)
			c[i] = byte(x)
			if taken(t, sealed(c, m.store)) {
				others++
			}
		}
		if taken(t, sealed(b[:i], m.store)) || taken(t, sealed(b[i+1:], m.store)) {
			t.Errorf("cut at %d", i)
		}
		if taken(t, sealed(append(bytes.Clone(b), b[:i+1]...), m.store)) {
			t.Errorf("more behind it")
		}
	}
	if others <= len(b) { // each byte is, once, what it was
		t.Error("no other machine was found")
	}
}

// TestP1203CountsThatBytesDoNotHave end where the bytes do.
func TestP1203CountsThatBytesDoNotHave(t *testing.T) {
	for _, lay := range []func(w *pen.Writer){
		func(w *pen.Writer) { w.U32(math.MaxUint32) },
		func(w *pen.Writer) { w.U32(0); w.U32(math.MaxUint32) },
		func(w *pen.Writer) {
			w.U32(0)
			w.U32(1)
			for range 4 {
				w.Int(1)
			}
			w.U8(0)
			w.U32(math.MaxUint32)
		},
		func(w *pen.Writer) { w.U32(1 << 31); w.Int(1); w.Int(1); w.Int(1); w.U32(0) },
		func(w *pen.Writer) { w.U32(0); w.U32(0); w.U32(0) },
	} {
		w := pen.NewWriter()
		w.Int(5)
		lay(w)
		if taken(t, sealed(w.Done(), nil)) {
			t.Errorf("%x was taken", w.Done())
		}
	}
}

// TestP1203PartsOfTwoMachines: a store that does not go with the rest.
func TestP1203PartsOfTwoMachines(t *testing.T) {
	m, other := some(), New()
	if taken(t, sealed(m.rest(), other.store)) || taken(t, sealed(other.rest(), m.store)) {
		t.Error("taken")
	}
	if !taken(t, sealed(m.rest(), m.store)) || !taken(t, sealed(other.rest(), nil)) {
		t.Error("refused, though all is of one")
	}
}

func FuzzLoad(f *testing.F) {
	for _, m := range []*Machine{New(), some()} {
		f.Add(m.rest(), m.store.Save())
	}
	f.Fuzz(func(t *testing.T, body, store []byte) {
		taken(t, append(pen.Frame(body), store...))
		taken(t, body)
	})
}
