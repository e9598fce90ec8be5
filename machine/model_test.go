package machine_test

import (
	"bytes"
	"fmt"
	"maps"
	"slices"
	"strings"
	"testing"

	"horologe/api"
	"horologe/lease"
	"horologe/machine"
	"horologe/mvcc"
)

// row is a client's last call as the model keeps it: its reply as it was told.
type row struct {
	client, seq int
	reply       string
}

// model is a machine as plain as can be.
type model struct {
	keys      map[string]api.KV
	past      [][]api.KV // the keys as they were at each revision, from 0 on
	events    []api.Event
	compacted int
	leases    map[int]lease.Lease
	rows      []row
	clock     int
}

func newModel() *model {
	return &model{keys: map[string]api.KV{}, past: [][]api.KV{nil}, leases: map[int]lease.Lease{}}
}

func (m *model) rev() int { return len(m.past) - 1 }

// apply does a command as the chapter says it, and tells the reply as a text.
func (m *model) apply(c api.Cmd) string {
	if c.Client == 0 {
		return told(m.do(c))
	}
	i := slices.IndexFunc(m.rows, func(r row) bool { return r.client == c.Client })
	switch {
	case c.Client < 0 || c.Seq < 1:
		return told(api.Reply{Err: api.ErrArg})
	case i < 0 && len(m.rows) == 64:
		return told(api.Reply{Err: api.ErrMany})
	case i < 0:
		m.rows = append(m.rows, row{c.Client, c.Seq, told(m.do(c))})
		return m.rows[len(m.rows)-1].reply
	case c.Seq < m.rows[i].seq:
		return told(api.Reply{Err: api.ErrStale})
	case c.Seq > m.rows[i].seq:
		m.rows[i] = row{c.Client, c.Seq, told(m.do(c))}
	}
	return m.rows[i].reply
}

func (m *model) do(c api.Cmd) api.Reply {
	var r api.Reply
	switch c.Kind {
	case 0:
		r.Then, r.Results, r.Err = m.txn(c.Txn)
	case 1:
		r.Err = m.grant(c.Lease, c.TTL)
	case 2:
		l, there := m.leases[c.Lease]
		if !there {
			r.Err = api.ErrNone
			break
		}
		l.Until = m.clock + l.TTL
		m.leases[c.Lease] = l
	case 3:
		if _, there := m.leases[c.Lease]; !there {
			r.Err = api.ErrNone
			break
		}
		m.end(func(l lease.Lease) bool { return l.Id == c.Lease })
	case 4:
		if c.Time < 0 || c.Time > 1099511627776 {
			r.Err = api.ErrArg
			break
		}
		if m.clock < c.Time {
			m.clock = c.Time
		}
	case 5:
		m.end(func(l lease.Lease) bool { return l.Until <= m.clock })
	case 6:
		r.Err = m.compact(c.Rev)
	default:
		r.Err = api.ErrKind
	}
	r.Rev, r.Time = m.rev(), m.clock
	return r
}

func (m *model) grant(id, ttl int) api.Errno {
	if id < 1 || id > 2147483647 || ttl < 1 || ttl > 2147483647 {
		return api.ErrArg
	}
	if _, there := m.leases[id]; there {
		return api.ErrIs
	}
	if len(m.leases) == 1024 {
		return api.ErrMany
	}
	m.leases[id] = lease.Lease{Id: id, TTL: ttl, Until: m.clock + ttl}
	return api.OK
}

// end revokes some leases, and deletes their keys.
func (m *model) end(goes func(l lease.Lease) bool) {
	next := m.begin()
	for _, key := range slices.Sorted(maps.Keys(m.keys)) {
		if l, there := m.leases[m.keys[key].Lease]; there && goes(l) {
			next.delete(key)
		}
	}
	maps.DeleteFunc(m.leases, func(_ int, l lease.Lease) bool { return goes(l) })
	m.take(next)
}

func (m *model) compact(rev int) api.Errno {
	if rev < 1 {
		return api.ErrArg
	}
	if rev > m.rev() {
		return api.ErrFuture
	}
	if rev <= m.compacted {
		return api.ErrPast
	}
	m.compacted = rev
	m.events = slices.DeleteFunc(m.events, func(e api.Event) bool { return e.Rev <= rev })
	return api.OK
}

// revision is one that is being made: it takes its place in the model once nothing is refused.
type revision struct {
	rev    int
	keys   map[string]api.KV
	leases map[int]lease.Lease
	events []api.Event
}

func (m *model) begin() *revision {
	return &revision{m.rev() + 1, maps.Clone(m.keys), m.leases, nil}
}

func (m *model) take(r *revision) {
	if len(r.events) == 0 {
		return
	}
	m.keys, m.events = r.keys, append(m.events, r.events...)
	var all []api.KV
	for _, key := range slices.Sorted(maps.Keys(m.keys)) {
		all = append(all, m.keys[key])
	}
	m.past = append(m.past, all)
}

func (r *revision) delete(key string) {
	delete(r.keys, key)
	r.events = append(r.events, api.Event{Rev: r.rev, Del: true, KV: api.KV{Key: key, Mod: r.rev}})
}

func (r *revision) op(op api.Op) (api.Result, api.Errno) {
	if op.Kind == 0 {
		kv, there := r.keys[op.Key]
		if _, has := r.leases[op.Lease]; op.Lease != 0 && !has {
			return api.Result{}, api.ErrLease
		}
		if !there && len(r.keys) == 4096 {
			return api.Result{}, api.ErrFull
		}
		n := 1
		if !there {
			n, kv.Create = 0, r.rev
		}
		kv.Key, kv.Value, kv.Lease, kv.Mod, kv.Version = op.Key, op.Value, op.Lease, r.rev, kv.Version+1
		r.keys[op.Key] = kv
		r.events = append(r.events, api.Event{Rev: r.rev, KV: kv})
		return api.Result{N: n}, api.OK
	}
	var found []api.KV
	for _, key := range slices.Sorted(maps.Keys(r.keys)) {
		if covers(op, key) {
			found = append(found, r.keys[key])
		}
	}
	n := len(found)
	if op.Kind == 1 {
		for _, kv := range found {
			r.delete(kv.Key)
		}
		return api.Result{N: n}, api.OK
	}
	if op.Limit >= 1 && op.Limit < n {
		found = found[:op.Limit]
	}
	return api.Result{N: n, KVs: found}, api.OK
}

// covers tells whether a key is in an operation's range.
func covers(op api.Op, key string) bool {
	return op.Key == key || op.Key <= key && key < op.End
}

func isKey(s string) bool { return len(s) >= 1 && len(s) <= 100 }

func checkOp(op api.Op) api.Errno {
	switch {
	case op.Kind < 0 || op.Kind > 2:
		return api.ErrKind
	case !isKey(op.Key), op.End != "" && op.End <= op.Key, op.Kind == 0 && (op.End != "" || op.Lease < 0):
		return api.ErrArg
	case op.Kind == 0 && len(op.Value) > 4096:
		return api.ErrLong
	}
	return api.OK
}

func twice(ops []api.Op) bool {
	for i, put := range ops {
		for j, op := range ops {
			if put.Kind == 0 && i != j && op.Kind != 2 && covers(op, put.Key) {
				return true
			}
		}
	}
	return false
}

func check(t api.Txn) api.Errno {
	if len(t.If) > 32 || len(t.Then) > 32 || len(t.Else) > 32 {
		return api.ErrMany
	}
	for _, c := range t.If {
		if !isKey(c.Key) {
			return api.ErrArg
		}
		if c.Target < 0 || c.Target > 4 || c.Sign < 0 || c.Sign > 3 {
			return api.ErrKind
		}
	}
	for _, op := range slices.Concat(t.Then, t.Else) {
		if err := checkOp(op); err != api.OK {
			return err
		}
	}
	if twice(t.Then) || twice(t.Else) {
		return api.ErrTwice
	}
	return api.OK
}

func (m *model) holds(c api.If) bool {
	kv := m.keys[c.Key]
	less, equal := kv.Value < c.Text, kv.Value == c.Text
	if c.Target < 4 {
		n := []int{kv.Version, kv.Create, kv.Mod, kv.Lease}[c.Target]
		less, equal = n < c.N, n == c.N
	}
	return []bool{equal, !equal, less, !less && !equal}[c.Sign]
}

func (m *model) txn(t api.Txn) (bool, []api.Result, api.Errno) {
	if err := check(t); err != api.OK {
		return false, nil, err
	}
	then, ops := true, t.Then
	for _, c := range t.If {
		if !m.holds(c) {
			then, ops = false, t.Else
		}
	}
	next := m.begin()
	var results []api.Result
	size := 0
	for _, op := range ops {
		r, err := next.op(op)
		if err != api.OK {
			return false, nil, err
		}
		for _, kv := range r.KVs {
			size += len(kv.Key) + len(kv.Value) + 40
		}
		results = append(results, r)
	}
	if size > 65536 {
		return false, nil, api.ErrLong
	}
	m.take(next)
	return then, results, api.OK
}

// told writes out all that a reply says. No list and an empty one are told alike.
func told(r api.Reply) string {
	var b strings.Builder
	fmt.Fprintf(&b, "%v rev %d then %v time %d:", r.Err, r.Rev, r.Then, r.Time)
	for _, x := range r.Results {
		fmt.Fprintf(&b, " %d[%s]", x.N, toldKeys(x.KVs))
	}
	return b.String()
}

// toldKeys tells keys as a text: a=x/Create.Mod.Version.Lease; of a long value how long it is.
func toldKeys(l []api.KV) string {
	var out []string
	for _, kv := range l {
		value := kv.Value
		if len(value) > 20 {
			value = fmt.Sprintf("%.3s..%d", value, len(value))
		}
		out = append(out, fmt.Sprintf("%s=%s/%d.%d.%d.%d", kv.Key, value, kv.Create, kv.Mod, kv.Version, kv.Lease))
	}
	return strings.Join(out, " ")
}

// toldEvents tells changes as a text: revision+key=value, revision-key.
func toldEvents(l []api.Event) string {
	var out []string
	for _, e := range l {
		if e.Del {
			out = append(out, fmt.Sprintf("%d-%s", e.Rev, e.KV.Key))
		} else {
			out = append(out, fmt.Sprintf("%d+%s=%s", e.Rev, e.KV.Key, e.KV.Value))
		}
	}
	return strings.Join(out, " ")
}

func toldLeases(l []lease.Lease) string {
	var out []string
	for _, x := range l {
		out = append(out, fmt.Sprintf("%d:%d-%d", x.Id, x.TTL, x.Until))
	}
	return strings.Join(out, " ")
}

// beyond lies behind all keys.
var beyond = strings.Repeat("\xff", 101)

// keysOf tells the keys of a store at a revision (0: now).
func keysOf(s *mvcc.Store, rev int) []api.KV {
	l, _, _ := s.Range("", beyond, rev, 0)
	return l
}

func is(t *testing.T, what string, got, want any) {
	t.Helper()
	if got != want {
		t.Fatalf("%s: %v, not %v", what, got, want)
	}
}

// isAs holds all that a machine shows against the model: keys, now and ahead, changes, leases, the clock, the clients' last calls.
func isAs(t *testing.T, x *machine.Machine, m *model) {
	t.Helper()
	s := x.Store()
	is(t, "Rev", s.Rev(), m.rev())
	is(t, "Compacted", s.Compacted(), m.compacted)
	is(t, "Clock", x.Clock(), m.clock)
	var leases []lease.Lease
	for _, id := range slices.Sorted(maps.Keys(m.leases)) {
		leases = append(leases, m.leases[id])
	}
	is(t, "Leases", toldLeases(x.Leases()), toldLeases(leases))
	for rev := max(m.compacted, 1); rev <= m.rev(); rev++ {
		if got := keysOf(s, rev); !slices.Equal(got, m.past[rev]) {
			t.Fatalf("keys at %d: %s, not %s", rev, toldKeys(got), toldKeys(m.past[rev]))
		}
	}
	is(t, "keys", toldKeys(keysOf(s, 0)), toldKeys(m.past[m.rev()]))
	if events, err := s.Since(m.compacted + 1); err != api.OK || !slices.Equal(events, m.events) {
		t.Fatalf("Since(%d): %s, %v; not %s", m.compacted+1, toldEvents(events), err, toldEvents(m.events))
	}
	for _, r := range m.rows { // none of these calls is done
		is(t, fmt.Sprint("the call anew of client ", r.client), told(x.Apply(api.Cmd{Client: r.client, Seq: r.seq, Kind: api.CClock, Time: 1 << 40})), r.reply)
		if r.seq > 1 {
			is(t, fmt.Sprint("an elder call of client ", r.client), told(x.Apply(api.Cmd{Client: r.client, Seq: r.seq - 1, Kind: api.CClock, Time: 1 << 40})), told(api.Reply{Err: api.ErrStale}))
		}
	}
	is(t, "Clock behind calls that are not to be done", x.Clock(), m.clock)
}

// does does commands on a machine and on its model, and holds the replies against each other; it tells the last one.
func does(t *testing.T, x *machine.Machine, m *model, l ...api.Cmd) string {
	t.Helper()
	last := ""
	for _, c := range l {
		got := told(x.Apply(c))
		last = m.apply(c)
		if got != last {
			t.Fatalf("Apply(%.300s): %s, not %s", fmt.Sprintf("%+v", c), got, last)
		}
	}
	return last
}

// of makes a machine by commands, and its model.
func of(t *testing.T, l ...api.Cmd) (*machine.Machine, *model) {
	t.Helper()
	x, m := machine.New(), newModel()
	does(t, x, m, l...)
	isAs(t, x, m)
	return x, m
}

// loaded saves a machine and loads it.
func loaded(t *testing.T, x *machine.Machine) *machine.Machine {
	t.Helper()
	b := x.Save()
	y, err := machine.Load(b)
	if err != api.OK {
		t.Fatalf("Load: %v", err)
	}
	if !bytes.Equal(y.Save(), b) {
		t.Fatal("what was loaded is saved as something else")
	}
	return y
}

// Commands and operations, in short.
func cmd(ops ...api.Op) api.Cmd { return api.Cmd{Kind: api.CTxn, Txn: api.Txn{Then: ops}} }

func put(key, value string) api.Op { return api.Op{Kind: api.OPut, Key: key, Value: value} }

func leased(key string, lease int) api.Op {
	return api.Op{Kind: api.OPut, Key: key, Value: "v", Lease: lease}
}

func del(key, end string) api.Op { return api.Op{Kind: api.ODelete, Key: key, End: end} }

func get(key, end string, limit int) api.Op {
	return api.Op{Kind: api.ORange, Key: key, End: end, Limit: limit}
}

func grant(id, ttl int) api.Cmd { return api.Cmd{Kind: api.CGrant, Lease: id, TTL: ttl} }

func renew(id int) api.Cmd { return api.Cmd{Kind: api.CRenew, Lease: id} }

func revoke(id int) api.Cmd { return api.Cmd{Kind: api.CRevoke, Lease: id} }

func clock(time int) api.Cmd { return api.Cmd{Kind: api.CClock, Time: time} }

func expire() api.Cmd { return api.Cmd{Kind: api.CExpire} }

func compact(rev int) api.Cmd { return api.Cmd{Kind: api.CCompact, Rev: rev} }

// by makes a command a client's call.
func by(client, seq int, c api.Cmd) api.Cmd {
	c.Client, c.Seq = client, seq
	return c
}
