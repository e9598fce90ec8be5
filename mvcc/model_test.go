package mvcc_test

import (
	"fmt"
	"maps"
	"slices"
	"strconv"
	"strings"
	"testing"

	"horologe/api"
	"horologe/mvcc"
)

// model is a store as plain as can be: all keys of each revision, and all changes.
type model struct {
	states    []map[string]api.KV // from revision 0 on
	events    []api.Event
	compacted int
}

func newModel() *model { return &model{states: []map[string]api.KV{{}}} }

func (m *model) rev() int { return len(m.states) - 1 }

// in tells those of some keys that a range has, rising.
func in(state map[string]api.KV, lo, hi string) []api.KV {
	var l []api.KV
	for _, key := range slices.Sorted(maps.Keys(state)) {
		if hi == "" && key == lo || hi != "" && key >= lo && key < hi {
			l = append(l, state[key])
		}
	}
	return l
}

// first tells the first limit ones, and how many there are.
func first(l []api.KV, limit int) ([]api.KV, int) {
	if limit < 1 || limit > len(l) {
		return l, len(l)
	}
	return l[:limit], len(l)
}

func (m *model) ranged(lo, hi string, rev, limit int) ([]api.KV, int, api.Errno) {
	if rev < 0 {
		return nil, 0, api.ErrArg
	}
	if rev > m.rev() {
		return nil, 0, api.ErrFuture
	}
	if rev > 0 && rev < m.compacted {
		return nil, 0, api.ErrPast
	}
	if rev == 0 {
		rev = m.rev()
	}
	l, n := first(in(m.states[rev], lo, hi), limit)
	return l, n, api.OK
}

func (m *model) since(rev int) ([]api.Event, api.Errno) {
	if rev < 1 {
		return nil, api.ErrArg
	}
	if rev <= m.compacted {
		return nil, api.ErrPast
	}
	var l []api.Event
	for _, e := range m.events {
		if e.Rev >= rev {
			l = append(l, e)
		}
	}
	return l, api.OK
}

func (m *model) compact(rev int) api.Errno {
	if rev < 1 {
		return api.ErrArg
	}
	if rev > m.rev() {
		return api.ErrFuture
	}
	if rev <= m.compacted {
		return api.ErrPast
	}
	m.compacted = rev
	return api.OK
}

// modelWrite is a write of a model.
type modelWrite struct {
	m       *model
	state   map[string]api.KV
	changed map[string]bool
	events  []api.Event
}

func (m *model) write() *modelWrite {
	return &modelWrite{m: m, state: maps.Clone(m.states[m.rev()]), changed: map[string]bool{}}
}

func (w *modelWrite) put(key, value string, lease int) api.Errno {
	if len(key) < 1 || len(key) > 100 || lease < 0 {
		return api.ErrArg
	}
	if len(value) > 4096 {
		return api.ErrLong
	}
	if w.changed[key] {
		return api.ErrTwice
	}
	rev := w.m.rev() + 1
	kv, there := w.state[key]
	if !there && len(w.state) == 4096 {
		return api.ErrFull
	}
	if !there {
		kv.Create = rev
	}
	kv = api.KV{Key: key, Value: value, Create: kv.Create, Mod: rev, Version: kv.Version + 1, Lease: lease}
	w.changed[key] = true
	w.state[key] = kv
	w.events = append(w.events, api.Event{Rev: rev, KV: kv})
	return api.OK
}

func (w *modelWrite) delete(lo, hi string) int {
	n := 0
	for _, kv := range in(w.state, lo, hi) {
		if w.changed[kv.Key] {
			continue
		}
		w.changed[kv.Key] = true
		delete(w.state, kv.Key)
		rev := w.m.rev() + 1
		w.events = append(w.events, api.Event{Rev: rev, Del: true, KV: api.KV{Key: kv.Key, Mod: rev}})
		n++
	}
	return n
}

func (w *modelWrite) done() int {
	if len(w.events) > 0 {
		w.m.states = append(w.m.states, w.state)
		w.m.events = append(w.m.events, w.events...)
	}
	return w.m.rev()
}

// do makes one write, of a store and of its model: puts (a=x, a=x@7 with a lease) and deletions (-a, -a:c of a range).
func do(t *testing.T, s *mvcc.Store, m *model, ops ...string) {
	t.Helper()
	w, v := s.Write(), m.write()
	for _, op := range ops {
		if d, is := strings.CutPrefix(op, "-"); is {
			lo, hi, _ := strings.Cut(d, ":")
			if got, want := w.Delete(lo, hi), v.delete(lo, hi); got != want {
				t.Fatalf("%q: Delete: %d, not %d", op, got, want)
			}
			continue
		}
		key, rest, _ := strings.Cut(op, "=")
		value, number, _ := strings.Cut(rest, "@")
		lease, _ := strconv.Atoi(number)
		if got, want := w.Put(key, value, lease), v.put(key, value, lease); got != want {
			t.Fatalf("%.40q: Put: %v, not %v", op, got, want)
		}
	}
	if got, want := w.Done(), v.done(); got != want {
		t.Fatalf("%.40q: Done: %d, not %d", ops, got, want)
	}
}

// of makes a store by writes, and its model.
func of(t *testing.T, writes ...[]string) (*mvcc.Store, *model) {
	t.Helper()
	s, m := mvcc.New(), newModel()
	for _, ops := range writes {
		do(t, s, m, ops...)
	}
	return s, m
}

// beyond lies behind all keys.
var beyond = strings.Repeat("\xff", 101)

// isAs holds all that a store tells of each revision against the model.
func isAs(t *testing.T, s *mvcc.Store, m *model) {
	t.Helper()
	if s.Rev() != m.rev() || s.Compacted() != m.compacted {
		t.Fatalf("Rev %d, Compacted %d; not %d, %d", s.Rev(), s.Compacted(), m.rev(), m.compacted)
	}
	for rev := -1; rev <= m.rev()+1; rev++ {
		rangesAs(t, s, m, "", beyond, rev, 0)
		got, err := s.Since(rev)
		want, wantErr := m.since(rev)
		if !slices.Equal(got, want) || err != wantErr {
			t.Fatalf("Since(%d): %v, %v; not %v, %v", rev, got, err, want, wantErr)
		}
	}
}

// rangesAs holds what a Range tells against the model.
func rangesAs(t *testing.T, s *mvcc.Store, m *model, lo, hi string, rev, limit int) {
	t.Helper()
	got, n, err := s.Range(lo, hi, rev, limit)
	want, wantN, wantErr := m.ranged(lo, hi, rev, limit)
	if !slices.Equal(got, want) || n != wantN || err != wantErr {
		t.Fatalf("Range(%.30q, %.30q, %d, %d): %s, %d, %v; not %s, %d, %v", lo, hi, rev, limit, told(got), n, err, told(want), wantN, wantErr)
	}
}

// told tells keys as a text: a=x/Create.Mod.Version.Lease.
func told(l []api.KV) string {
	var out []string
	for _, kv := range l {
		out = append(out, fmt.Sprintf("%s=%s/%d.%d.%d.%d", kv.Key, kv.Value, kv.Create, kv.Mod, kv.Version, kv.Lease))
	}
	return strings.Join(out, " ")
}

// toldEvents tells changes as a text: the revision, a sign, and what told tells.
func toldEvents(l []api.Event) string {
	var out []string
	for _, e := range l {
		sign := "+"
		if e.Del {
			sign = "-"
		}
		out = append(out, fmt.Sprint(e.Rev, sign, told([]api.KV{e.KV})))
	}
	return strings.Join(out, " ")
}

// all tells a store's keys at a revision as a text.
func all(t *testing.T, s *mvcc.Store, rev int) string {
	t.Helper()
	l, n, err := s.Range("", beyond, rev, 0)
	if err != api.OK || n != len(l) {
		t.Fatalf("Range at %d: %d of %d, %v", rev, len(l), n, err)
	}
	return told(l)
}
