package mvcc_test

import (
	"fmt"
	"maps"
	"math"
	"math/rand"
	"slices"
	"strings"
	"testing"
	"unsafe"

	"horologe/api"
	"horologe/mvcc"
)

// drawnKey draws a key of few kinds of bytes, so that many are equal or fronts of one another; now and then none.
func drawnKey(r *rand.Rand) string {
	b := make([]byte, r.Intn(4))
	for i := range b {
		b[i] = "\x00ab\xff"[r.Intn(4)]
	}
	return string(b)
}

// drawnWrite makes one write of drawn calls, some of them wrong, and holds each answer against the model.
func drawnWrite(t *testing.T, r *rand.Rand, s *mvcc.Store, m *model) {
	t.Helper()
	w, v := s.Write(), m.write()
	for range r.Intn(6) {
		key, hi := drawnKey(r), drawnKey(r)
		switch r.Intn(6) {
		case 0, 1, 2:
			value, lease := fmt.Sprint(r.Intn(1000)), r.Intn(6)-1
			if got, want := w.Put(key, value, lease), v.put(key, value, lease); got != want {
				t.Fatalf("Put(%q, %q, %d): %v, not %v", key, value, lease, got, want)
			}
		case 3, 4:
			if r.Intn(2) > 0 {
				hi = ""
			}
			if got, want := w.Delete(key, hi), v.delete(key, hi); got != want {
				t.Fatalf("Delete(%q, %q): %d, not %d", key, hi, got, want)
			}
		case 5:
			limit := r.Intn(6) - 1
			got, n := w.Range(key, hi, limit)
			want, wantN := first(in(v.state, key, hi), limit)
			if !slices.Equal(got, want) || n != wantN {
				t.Fatalf("Range(%q, %q, %d) within a write: %s, %d; not %s, %d", key, hi, limit, told(got), n, told(want), wantN)
			}
		}
	}
	if r.Intn(8) == 0 {
		return // it is forgotten
	}
	if got, want := w.Done(), v.done(); got != want {
		t.Fatalf("Done: %d, not %d", got, want)
	}
}

// TestP805AsTheModel draws writes and Compacts, with a Save and a Load now and then; all that is told is held against the model.
func TestP805AsTheModel(t *testing.T) {
	for seed := range int64(40) {
		r := rand.New(rand.NewSource(805000 + seed))
		s, m := of(t)
		for step := range 120 {
			drawnWrite(t, r, s, m)
			if r.Intn(10) == 0 {
				rev := r.Intn(m.rev()+4) - 1
				if got, want := s.Compact(rev), m.compact(rev); got != want {
					t.Fatalf("seed %d: Compact(%d): %v, not %v", seed, rev, got, want)
				}
			}
			if r.Intn(20) == 0 {
				s = loaded(t, s)
			}
			for range 5 {
				rangesAs(t, s, m, drawnKey(r), drawnKey(r), r.Intn(m.rev()+3)-1, r.Intn(6)-1)
			}
			if step%10 == 0 {
				isAs(t, s, m)
			}
		}
		isAs(t, s, m)
		isAs(t, loaded(t, s), m)
	}
}

// TestP805ToldAgain: what Range told of a revision when it was new is told as long as that is not compacted.
func TestP805ToldAgain(t *testing.T) {
	for seed := range int64(20) {
		r := rand.New(rand.NewSource(8050 + seed))
		s, m := of(t)
		was := []string{""}
		for range 150 {
			drawnWrite(t, r, s, m)
			if s.Rev() == len(was) {
				was = append(was, all(t, s, 0))
			}
			if r.Intn(15) == 0 {
				s.Compact(r.Intn(s.Rev() + 1))
			}
			for rev := max(s.Compacted(), 1); rev <= s.Rev(); rev++ {
				if got := all(t, s, rev); got != was[rev] {
					t.Fatalf("seed %d: at %d: %s, not %s", seed, rev, got, was[rev])
				}
			}
		}
	}
}

// TestP805ChangesMakeWhatIsThere does the changes from a revision on to what was there ahead of it.
func TestP805ChangesMakeWhatIsThere(t *testing.T) {
	for seed := range int64(20) {
		r := rand.New(rand.NewSource(80500 + seed))
		s, m := of(t)
		for range 100 {
			drawnWrite(t, r, s, m)
		}
		s.Compact(r.Intn(s.Rev() + 1))
		for from := s.Compacted() + 1; from <= s.Rev()+1; from++ {
			keys := map[string]api.KV{}
			if from > 1 { // Range takes a 0 for the last revision
				l, _, _ := s.Range("", beyond, from-1, 0)
				for _, kv := range l {
					keys[kv.Key] = kv
				}
			}
			events, err := s.Since(from)
			if err != api.OK {
				t.Fatalf("seed %d: Since(%d): %v", seed, from, err)
			}
			for i, e := range events {
				if e.Rev < from || i > 0 && e.Rev < events[i-1].Rev || e.KV.Mod != e.Rev {
					t.Fatalf("seed %d: Since(%d): %s", seed, from, toldEvents(events))
				}
				if e.Del {
					delete(keys, e.KV.Key)
				} else {
					keys[e.KV.Key] = e.KV
				}
				if i+1 < len(events) && events[i+1].Rev == e.Rev {
					continue
				}
				if got, want := told(in(keys, "", beyond)), all(t, s, e.Rev); got != want {
					t.Fatalf("seed %d: changes from %d on, up to %d: %s, not %s", seed, from, e.Rev, got, want)
				}
			}
			if got, want := told(in(keys, "", beyond)), all(t, s, 0); got != want {
				t.Fatalf("seed %d: changes from %d on: %s, not %s", seed, from, got, want)
			}
		}
	}
}

func TestP1WhateverIsHandedIn(t *testing.T) {
	r := rand.New(rand.NewSource(801))
	numbers := []int{math.MinInt, math.MinInt + 1, -1 << 62, -1, 0, 1, 2, 3, 5, 1 << 31, 1 << 62, math.MaxInt - 1, math.MaxInt}
	texts := []string{"", "\x00", "a", "b", strings.Repeat("k", 100), strings.Repeat("k", 101), strings.Repeat("v", 4096), strings.Repeat("v", 4097), strings.Repeat("\xff", 10000), "\xed\xa0\x80"}
	number := func() int { return numbers[r.Intn(len(numbers))] }
	text := func() string { return texts[r.Intn(len(texts))] }
	for _, s := range []*mvcc.Store{mvcc.New(), {}} {
		m := newModel()
		isAs(t, s, m)
		isAs(t, loaded(t, s), m)
		for range 500 {
			w, v := s.Write(), m.write()
			for range 3 {
				key, hi, value, lease, limit := text(), text(), text(), number(), number()
				is(t, "Put", w.Put(key, value, lease), v.put(key, value, lease))
				is(t, "Delete", w.Delete(hi, key), v.delete(hi, key))
				got, n := w.Range(key, hi, limit)
				want, wantN := first(in(v.state, key, hi), limit)
				is(t, "Range within a write", told(got), told(want))
				is(t, "Range within a write", n, wantN)
				rangesAs(t, s, m, key, hi, number(), limit)
				rev := number()
				events, err := s.Since(rev)
				wantEvents, wantErr := m.since(rev)
				is(t, "Since", toldEvents(events), toldEvents(wantEvents))
				is(t, "Since", err, wantErr)
			}
			is(t, "Done", w.Done(), v.done())
			rev := number()
			is(t, "Compact", s.Compact(rev), m.compact(rev))
		}
		isAs(t, s, m)
	}
}

func TestP2AnswersAreTheCallersOwn(t *testing.T) {
	s, m := some(t)
	spoil := func(l []api.KV) {
		l = l[:cap(l)]
		for i := range l {
			l[i] = api.KV{Key: "spoilt"}
		}
	}
	for range 2 {
		for rev := range 8 {
			l, _, _ := s.Range("a", "z", rev, rev%3)
			spoil(l)
			events, _ := s.Since(rev)
			for i := range events[:cap(events)] {
				events[:cap(events)][i] = api.Event{Rev: -1, KV: api.KV{Key: "spoilt"}}
			}
		}
		b := s.Save()
		x, _ := mvcc.Load(b)
		for i := range b[:cap(b)] {
			b[:cap(b)][i] ^= 0x55
		}
		isAs(t, x, m)
		isAs(t, s, m)
	}
	w := s.Write()
	w.Put("b", "x", 0)
	want, _ := w.Range("a", "z", 0)
	l, _ := w.Range("a", "z", 0)
	spoil(l)
	again, _ := w.Range("a", "z", 0)
	is(t, "Range within a write", told(again), told(want))
	w.Done()
	is(t, "then", all(t, s, 0), told(want))
}

func TestP2AnAnswerStaysAsItWas(t *testing.T) {
	s, m := some(t)
	l, _, _ := s.Range("a", "z", 0, 0)
	events, _ := s.Since(1)
	saved := s.Save()
	was, wasEvents, wasSaved := told(l), toldEvents(events), string(saved)
	do(t, s, m, "c=new", "-e", "a=new")
	s.Compact(8)
	do(t, s, m, "-a:z")
	is(t, "Range", told(l), was)
	is(t, "Since", toldEvents(events), wasEvents)
	is(t, "Save", string(saved) == wasSaved, true)
}

func TestP2LoadLeavesWhatItIsHanded(t *testing.T) {
	s, m := some(t)
	b := s.Save()
	roomy := append(append(make([]byte, 0, len(b)+50), b...), "and spare room, with more behind it"...)
	was := string(roomy)
	x, err := mvcc.Load(roomy[:len(b)])
	is(t, "Load", err, api.OK)
	is(t, "what was handed in", string(roomy) == was, true)
	clear(roomy)
	isAs(t, x, m)
}

// TestP2TextsAreNotKept hands in texts that are pieces of a longer one, which would be kept with them.
func TestP2TextsAreNotKept(t *testing.T) {
	long := strings.Repeat("nightly", 1000)
	s := mvcc.New()
	w := s.Write()
	w.Put(long[:7], long[7:14], 0)
	apart := func(what string, l []api.KV) {
		t.Helper()
		is(t, what, len(l), 1)
		if unsafe.StringData(l[0].Key) == unsafe.StringData(long) || unsafe.StringData(l[0].Value) == unsafe.StringData(long[7:]) {
			t.Errorf("%s: what was handed in is kept", what)
		}
	}
	l, _ := w.Range(long[:7], "", 0)
	apart("Range within a write", l)
	w.Done()
	l, _, _ = s.Range(long[:7], "", 0, 0)
	apart("Range", l)
	w = s.Write()
	w.Delete(long[:7], "")
	w.Done()
	events, _ := s.Since(2)
	apart("Since", []api.KV{events[0].KV})
}

func TestP3TheSameCallsAnswerTheSame(t *testing.T) {
	made := func() string {
		r := rand.New(rand.NewSource(803))
		s, m := of(t)
		for range 300 {
			drawnWrite(t, r, s, m)
		}
		s.Compact(50)
		return string(s.Save())
	}
	is(t, "Save", made() == made(), true)
}

func TestP7StoresAreOfTheirOwn(t *testing.T) {
	s, m := some(t)
	x, n := loaded(t, s), &model{states: slices.Clone(m.states), events: slices.Clone(m.events)}
	n.states[7] = maps.Clone(m.states[7])
	do(t, x, n, "a=other")
	w, v := s.Write(), m.write()
	w.Put("c", "this", 0)
	v.put("c", "this", 0)
	do(t, x, n, "c=other", "-e")
	x.Compact(9)
	n.compact(9)
	is(t, "Done", w.Done(), v.done())
	isAs(t, s, m)
	isAs(t, x, n)
	isAs(t, mvcc.New(), newModel())
}
