package txn_test

import (
	"bytes"
	"fmt"
	"maps"
	"slices"
	"strings"
	"testing"

	"horologe/api"
	"horologe/mvcc"
	"horologe/txn"
)

// leases are those that there are.
type leases map[int]bool

func (l leases) Has(id int) bool { return l[id] }

// model does transactions as plainly as can be: keys as they are, the last revision, and what it changed.
type model struct {
	keys   map[string]api.KV
	rev    int
	events []api.Event
	leases leases
}

func newModel(ids ...int) *model {
	m := &model{keys: map[string]api.KV{}, leases: leases{}}
	for _, id := range ids {
		m.leases[id] = true
	}
	return m
}

func isKey(s string) bool { return len(s) >= 1 && len(s) <= 100 }

// covers tells whether a key is in an operation's range.
func covers(op api.Op, key string) bool {
	if op.End == "" {
		return op.Key == key
	}
	return op.Key <= key && key < op.End
}

func modelIf(c api.If) api.Errno {
	if !isKey(c.Key) {
		return api.ErrArg
	}
	if !slices.Contains([]int{0, 1, 2, 3, 4}, c.Target) || !slices.Contains([]int{0, 1, 2, 3}, c.Sign) {
		return api.ErrKind
	}
	return api.OK
}

func modelOp(op api.Op) api.Errno {
	if !slices.Contains([]int{0, 1, 2}, op.Kind) {
		return api.ErrKind
	}
	if !isKey(op.Key) {
		return api.ErrArg
	}
	if op.End != "" && op.End <= op.Key {
		return api.ErrArg
	}
	if op.Kind == 0 && (op.End != "" || op.Lease < 0) {
		return api.ErrArg
	}
	if op.Kind == 0 && len(op.Value) > 4096 {
		return api.ErrLong
	}
	return api.OK
}

func modelTwice(ops []api.Op) bool {
	puts := map[string]int{}
	for _, op := range ops {
		if op.Kind == 0 {
			puts[op.Key]++
		}
	}
	for key, n := range puts {
		if n > 1 || slices.ContainsFunc(ops, func(op api.Op) bool { return op.Kind == 1 && covers(op, key) }) {
			return true
		}
	}
	return false
}

func modelCheck(t api.Txn) api.Errno {
	if len(t.If) > 32 || len(t.Then) > 32 || len(t.Else) > 32 {
		return api.ErrMany
	}
	for _, c := range t.If {
		if err := modelIf(c); err != api.OK {
			return err
		}
	}
	for _, op := range append(slices.Clone(t.Then), t.Else...) {
		if err := modelOp(op); err != api.OK {
			return err
		}
	}
	if modelTwice(t.Then) || modelTwice(t.Else) {
		return api.ErrTwice
	}
	return api.OK
}

// fits tells whether a sign says what lies so: -1: less, 0: equal, 1: greater.
func fits(sign, order int) bool {
	return slices.Contains(map[int][]int{0: {0}, 1: {-1, 1}, 2: {-1}, 3: {1}}[sign], order)
}

// order tells how two numbers lie, without a difference, which may wrap round.
func order(a, b int) int {
	if a < b {
		return -1
	}
	if a > b {
		return 1
	}
	return 0
}

func (m *model) holds(l ...api.If) bool {
	for _, c := range l {
		kv := m.keys[c.Key]
		if c.Target < 0 || c.Target > 4 {
			return false
		}
		o := bytes.Compare([]byte(kv.Value), []byte(c.Text))
		if c.Target < 4 {
			o = order([]int{kv.Version, kv.Create, kv.Mod, kv.Lease}[c.Target], c.N)
		}
		if !fits(c.Sign, o) {
			return false
		}
	}
	return true
}

// do does a transaction on a copy, which takes the model's place unless it is refused.
func (m *model) do(t api.Txn) (bool, []api.Result, api.Errno) {
	if err := modelCheck(t); err != api.OK {
		return false, nil, err
	}
	then, ops := m.holds(t.If...), t.Then
	if !then {
		ops = t.Else
	}
	next := &model{keys: maps.Clone(m.keys), rev: m.rev, leases: m.leases}
	var results []api.Result
	size := 0
	for _, op := range ops {
		r, err := next.one(op, m.rev+1)
		if err != api.OK {
			return false, nil, err
		}
		for _, kv := range r.KVs {
			size += len(kv.Key) + len(kv.Value) + 40
		}
		results = append(results, r)
	}
	if size > 65536 {
		return false, nil, api.ErrLong
	}
	if len(next.events) > 0 {
		next.rev++
		*m = *next
	}
	return then, results, api.OK
}

// one does one operation, at a revision.
func (m *model) one(op api.Op, rev int) (api.Result, api.Errno) {
	if op.Kind == 0 {
		kv, there := m.keys[op.Key]
		if op.Lease != 0 && !m.leases[op.Lease] {
			return api.Result{}, api.ErrLease
		}
		if !there && len(m.keys) >= 4096 {
			return api.Result{}, api.ErrFull
		}
		r := api.Result{N: 1}
		if !there {
			kv.Create, r.N = rev, 0
		}
		kv.Key, kv.Value, kv.Lease, kv.Mod, kv.Version = op.Key, op.Value, op.Lease, rev, kv.Version+1
		m.keys[op.Key] = kv
		m.events = append(m.events, api.Event{Rev: rev, KV: kv})
		return r, api.OK
	}
	var found []api.KV
	for _, key := range slices.Sorted(maps.Keys(m.keys)) {
		if covers(op, key) {
			found = append(found, m.keys[key])
		}
	}
	n := len(found)
	if op.Kind == 2 {
		if op.Limit >= 1 && op.Limit < n {
			found = found[:op.Limit]
		}
		return api.Result{N: n, KVs: found}, api.OK
	}
	for _, kv := range found {
		delete(m.keys, kv.Key)
		m.events = append(m.events, api.Event{Rev: rev, Del: true, KV: api.KV{Key: kv.Key, Mod: rev}})
	}
	return api.Result{N: n}, api.OK
}

// Operations and comparisons, in short.
func put(key, value string) api.Op { return api.Op{Kind: api.OPut, Key: key, Value: value} }

func leased(key string, lease int) api.Op { return api.Op{Kind: api.OPut, Key: key, Lease: lease} }

func del(key, end string) api.Op { return api.Op{Kind: api.ODelete, Key: key, End: end} }

func get(key, end string, limit int) api.Op {
	return api.Op{Kind: api.ORange, Key: key, End: end, Limit: limit}
}

func ops(l ...api.Op) []api.Op { return l }

func ifs(l ...api.If) []api.If { return l }

// then is a transaction without comparisons.
func then(l ...api.Op) api.Txn { return api.Txn{Then: l} }

// never is a comparison that does not hold.
var never = api.If{Key: "a", Target: api.TVersion, Sign: api.SLess}

func is(t *testing.T, what string, got, want any) {
	t.Helper()
	if got != want {
		t.Errorf("%s: %v, not %v", what, got, want)
	}
}

// told tells keys as a text: a=x/Create.Mod.Version.Lease; of a long value how long it is.
func told(l []api.KV) string {
	var out []string
	for _, kv := range l {
		value := kv.Value
		if len(value) > 20 {
			value = fmt.Sprintf("%.3s..%d", value, len(value))
		}
		out = append(out, fmt.Sprintf("%s=%s/%d.%d.%d.%d", kv.Key, value, kv.Create, kv.Mod, kv.Version, kv.Lease))
	}
	return strings.Join(out, " ")
}

// toldResults tells results as a text: N each, and keys in brackets.
func toldResults(l []api.Result) string {
	var out []string
	for _, r := range l {
		out = append(out, fmt.Sprintf("%d[%s]", r.N, told(r.KVs)))
	}
	return strings.Join(out, " ")
}

// beyond lies behind all keys.
var beyond = strings.Repeat("\xff", 101)

// all tells a store's keys as a text.
func all(s *mvcc.Store) string {
	l, _, _ := s.Range("", beyond, 0, 0)
	return told(l)
}

// isAs holds what a store has against the model: its revision, its keys, what the last revision changed.
func isAs(t *testing.T, s *mvcc.Store, m *model) {
	t.Helper()
	if s.Rev() != m.rev {
		t.Fatalf("Rev %d, not %d", s.Rev(), m.rev)
	}
	got, _, _ := s.Range("", beyond, 0, 0)
	if len(got) != len(m.keys) || slices.ContainsFunc(got, func(kv api.KV) bool { return kv != m.keys[kv.Key] }) {
		t.Fatalf("keys: %s, not those of the model", told(got))
	}
	if m.rev == 0 {
		return
	}
	if events, err := s.Since(m.rev); err != api.OK || !slices.Equal(events, m.events) {
		t.Fatalf("Since(%d): %+v, %v; not %+v", m.rev, events, err, m.events)
	}
}

// does does a transaction, on a store and on its model, and holds all that is told against each other.
func does(t *testing.T, s *mvcc.Store, m *model, x api.Txn) ([]api.Result, api.Errno) {
	t.Helper()
	before := s.Save()
	got, results, err := txn.Do(s, m.leases, x)
	want, wantResults, wantErr := m.do(x)
	if got != want || err != wantErr || !slices.EqualFunc(results, wantResults, sameResult) {
		t.Fatalf("Do(%.300s): %v, %s, %v; not %v, %s, %v", fmt.Sprintf("%+v", x), got, toldResults(results), err, want, toldResults(wantResults), wantErr)
	}
	if err != api.OK && !bytes.Equal(s.Save(), before) {
		t.Fatalf("Do(%.300s): %v, but the store is changed", fmt.Sprintf("%+v", x), err)
	}
	isAs(t, s, m)
	return results, err
}

func sameResult(a, b api.Result) bool { return a.N == b.N && slices.Equal(a.KVs, b.KVs) }

// of makes a store by transactions, and its model, with the leases 1 to 9.
func of(t *testing.T, txns ...api.Txn) (*mvcc.Store, *model) {
	t.Helper()
	s, m := mvcc.New(), newModel(1, 2, 3, 4, 5, 6, 7, 8, 9)
	for _, x := range txns {
		if _, err := does(t, s, m, x); err != api.OK {
			t.Fatalf("Do(%+v): %v", x, err)
		}
	}
	return s, m
}
