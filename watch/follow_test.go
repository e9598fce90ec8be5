package watch_test

import (
	"fmt"
	"math"
	"math/rand"
	"slices"
	"strings"
	"testing"
	"unsafe"

	"horologe/api"
	"horologe/mvcc"
	"horologe/watch"
)

// drawnKey draws one of few keys, some of them fronts of one another; now and then none.
func drawnKey(r *rand.Rand) string {
	b := make([]byte, r.Intn(3))
	for i := range b {
		b[i] = "abc"[r.Intn(3)]
	}
	return string(b)
}

// drawnWrite makes a revision of up to most changes.
func (p pair) drawnWrite(t *testing.T, r *rand.Rand, most int) {
	t.Helper()
	var ops []string
	changed := map[string]int{}
	for range 1 + r.Intn(most) {
		key := "a" + drawnKey(r)
		if r.Intn(3) == 0 {
			key = "b" + drawnKey(r)
		}
		if changed[key]++; changed[key] > 1 {
			continue
		}
		if _, there := p.m.keys[key]; there && r.Intn(3) == 0 {
			ops = append(ops, "-"+key)
		} else {
			ops = append(ops, key+"="+strings.Repeat("v", r.Intn(4)))
		}
	}
	p.does(t, ops...)
}

// heard is what a watcher of the tests was told so far.
type heard struct {
	id, from int
	lo, hi   string
	events   []api.Event
	end      api.Errno // what it was told at the end
}

// due tells all that a watcher may hear, as far as the store has gone.
func (p pair) due(h *heard) []api.Event {
	w := watched{lo: h.lo, hi: h.hi, place: h.from}
	return slices.DeleteFunc(slices.Clone(p.m.events), func(e api.Event) bool { return !w.waitsFor(e) })
}

// polled polls a watcher of the tests, and holds all that it was told against what is due.
func (p pair) polled(t *testing.T, h *heard, most int) {
	t.Helper()
	events, err := p.h.Poll(h.id, most)
	want, wantErr := p.m.poll(h.id, most)
	is(t, fmt.Sprintf("Poll(%d, %d)", h.id, most), full(events, err), full(want, wantErr))
	switch {
	case h.end != api.OK && (err != api.ErrNone || len(events) > 0):
		t.Errorf("P1304: behind %v: %s", h.end, full(events, err))
	case h.end == api.OK && err != api.OK:
		if err != api.ErrFull && err != api.ErrPast {
			t.Errorf("P1304: the end is %v", err)
		}
		h.end = err
	}
	h.events = append(h.events, events...)
	due := p.due(h)
	if len(h.events) > len(due) || !slices.Equal(h.events, due[:len(h.events)]) {
		t.Errorf("P1304: %q is no front of %q", told(h.events, api.OK), told(due, api.OK))
	}
}

// drawnStep does one drawn call, of the store or of the hub.
func (p pair) drawnStep(t *testing.T, r *rand.Rand, all []*heard, most int) []*heard {
	t.Helper()
	switch r.Intn(12) {
	case 0, 1, 2:
		p.drawnWrite(t, r, most)
	case 3, 4:
		p.feed()
	case 5:
		if room := p.m.rev - p.m.compacted; room > 0 && r.Intn(3) == 0 {
			p.compact(t, p.m.compacted+1+r.Intn(room))
		}
	case 6:
		h := &heard{from: max(p.m.rev+r.Intn(12)-8, 1), lo: drawnKey(r), hi: drawnKey(r)}
		h.id = p.watch(t, h.lo, h.hi, h.from)
		return append(all, h)
	case 7:
		if r.Intn(4) == 0 {
			i := r.Intn(len(all))
			p.close(t, all[i].id)
			return slices.Delete(all, i, i+1)
		}
	default:
		p.polled(t, all[r.Intn(len(all))], r.Intn(8)-1)
	}
	return all
}

func TestP1304DrawnCalls(t *testing.T) {
	ends := map[api.Errno]int{}
	for seed := range int64(120) {
		r := rand.New(rand.NewSource(130400 + seed))
		p := begun()
		all := []*heard{{id: p.watch(t, "a", "d", 1), from: 1, lo: "a", hi: "d"}}
		for range 400 {
			if all = p.drawnStep(t, r, all, []int{2, 5, 12}[seed%3]); len(all) == 0 {
				break
			}
			is(t, "Len", p.h.Len(), len(p.m.watchers))
			if t.Failed() {
				t.Fatalf("seed %d", seed)
			}
		}
		for _, h := range all {
			p.heardOut(t, h)
			ends[h.end]++
		}
		if t.Failed() {
			t.Fatalf("seed %d", seed)
		}
	}
	if ends[api.OK] < 50 || ends[api.ErrFull] < 50 || ends[api.ErrPast] < 50 {
		t.Errorf("the ends that were drawn: %v", ends)
	}
}

// heardOut polls till a watcher hears no more: it has then heard all, or was told why not.
func (p pair) heardOut(t *testing.T, h *heard) {
	t.Helper()
	for range 2 { // behind the first time it is behind no more, and is fed
		for before := -1; before < len(h.events) && h.end == api.OK; {
			before = len(h.events)
			p.polled(t, h, 3)
		}
		p.feed()
	}
	p.polled(t, h, 99)
	p.polled(t, h, 1)
	if due := p.due(h); h.end == api.OK && len(h.events) != len(due) {
		t.Errorf("P1304: watcher %d heard %q of %q", h.id, told(h.events, api.OK), told(due, api.OK))
	}
}

// TestP1304HearsAll: who is fed and polled often enough hears all, whatever the steps are.
func TestP1304HearsAll(t *testing.T) {
	for seed := range int64(8) {
		r := rand.New(rand.NewSource(130480 + seed))
		p := begun()
		var all []*heard
		for i := range 6 {
			h := &heard{from: 1 + 7*i, lo: drawnKey(r), hi: "b" + drawnKey(r)}
			h.id = p.watch(t, h.lo, h.hi, h.from)
			all = append(all, h)
		}
		for range 120 {
			p.drawnWrite(t, r, 8)
			p.feed()
			for _, h := range all {
				for range len(p.due(h)) - len(h.events) { // as each tells one at least
					p.polled(t, h, 1+r.Intn(5))
				}
			}
			if p.m.rev-p.m.compacted > 60 { // all the places are behind that
				p.compact(t, p.m.rev-1)
			}
			if t.Failed() || p.h.Len() < 6 {
				t.Fatalf("seed %d: at %d", seed, p.m.rev)
			}
		}
	}
}

func TestP1WhateverIsHandedIn(t *testing.T) {
	r := rand.New(rand.NewSource(1301))
	numbers := []int{math.MinInt, math.MinInt + 1, -1 << 62, -1, 0, 1, 2, 3, 9, 16, 17, 1 << 31, 1 << 62, math.MaxInt - 1, math.MaxInt}
	texts := []string{"", "\x00", "a", "aa", "b", "\xff", "\xed\xa0\x80", strings.Repeat("k", 101), strings.Repeat("\xff", 10000)}
	number := func() int { return numbers[r.Intn(len(numbers))] }
	text := func() string { return texts[r.Intn(len(texts))] }
	p := begun()
	for range 2000 {
		switch r.Intn(8) {
		case 0:
			p.watch(t, text(), text(), number())
		case 1:
			p.close(t, number())
		case 2:
			p.drawnWrite(t, r, 3)
		case 3:
			p.feed()
		case 4:
			if p.m.rev > p.m.compacted+20 {
				p.compact(t, p.m.rev-r.Intn(10))
			}
		default:
			p.poll(t, number(), number())
			p.poll(t, p.m.last-r.Intn(10), number())
		}
	}
}

func TestP1AHubThatIsNotOfNew(t *testing.T) {
	var h watch.Hub
	h.Feed()
	is(t, "Len", h.Len(), 0)
	is(t, "Close", h.Close(0), api.ErrNone)
	is(t, "Poll", told(h.Poll(0, 1)), "none")
	is(t, "Watch", h.Watch("a", "", 1), 1)
	is(t, "Poll", told(h.Poll(1, 1)), "")
	h.Feed()
	is(t, "Poll", told(h.Poll(1, 1)), "")
	is(t, "Len", h.Len(), 1)
	is(t, "Close", h.Close(1), api.OK)

	var s mvcc.Store
	g := watch.New(&s)
	is(t, "Watch", g.Watch("a", "", 1), 1)
	is(t, "Poll", told(g.Poll(1, 1)), "")
	w := s.Write()
	w.Put("a", "", 0)
	w.Done()
	g.Feed()
	is(t, "Poll", told(g.Poll(1, 1)), "1+a")
}

// spoil writes over all of a list, its spare room too.
func spoil(l []api.Event) {
	for i := range l[:cap(l)] {
		l[:cap(l)][i] = api.Event{Rev: -1, KV: api.KV{Key: "spoilt"}}
	}
}

func TestP2AnswersAreTheCallersOwn(t *testing.T) {
	for _, most := range []int{1, 2, 3, 5, 99} {
		p := begun()
		for range 4 {
			p.does(t, "a=1", "b=2", "c=3")
		}
		id, other := p.watch(t, "a", "z", 1), p.watch(t, "a", "c", 2)
		var kept [][]api.Event
		var was []string
		for range 12 {
			for _, x := range []int{id, other} {
				events, err := p.h.Poll(x, most)
				want, wantErr := p.m.poll(x, most)
				is(t, "Poll", full(events, err), full(want, wantErr))
				again := slices.Clone(events)
				spoil(events)
				kept, was = append(kept, again), append(was, told(again, err))
			}
			if p.m.rev < 8 {
				p.does(t, "a=4", "-b")
				p.does(t, "b=1")
			}
			p.feed()
		}
		for i, l := range kept {
			is(t, "what was told", told(l, api.OK), was[i])
		}
	}
}

// TestP2AnAnswerStaysAsItWas: no later call changes what was told.
func TestP2AnAnswerStaysAsItWas(t *testing.T) {
	p := begun()
	id := p.watch(t, "a", "z", 1)
	p.does(t, "a=1")
	var kept [][]api.Event
	var was []string
	for rev := 2; rev < 60; rev++ {
		l, err := p.h.Poll(id, 1+rev%3)
		kept, was = append(kept, l), append(was, full(l, err))
		p.does(t, "a=1", "b=2")
		p.feed()
		if rev%9 == 0 {
			p.compact(t, rev)
		}
	}
	p.close(t, id)
	for i, l := range kept {
		if !strings.HasSuffix(was[i], "ok") {
			continue
		}
		is(t, "what was told", full(l, api.OK), was[i])
	}
	if !slices.ContainsFunc(kept, func(l []api.Event) bool { return len(l) == 3 }) {
		t.Error("too little was told")
	}
}

// TestP2TextsAreNotKept hands in texts that are pieces of a longer one: were they kept, it would be with them.
func TestP2TextsAreNotKept(t *testing.T) {
	long := []byte(strings.Repeat("nightly", 1000))
	p := begun()
	lo, hi := unsafe.String(&long[0], 1), unsafe.String(&long[6], 1) // n, y
	p.h.Watch(lo, hi, 1)
	p.h.Watch(lo, "", 1)
	for i := range long {
		long[i] = 'a' // nobody may see this
	}
	p.does(t, "n=1", "m=1", "p=1", "y=1", "a=1")
	is(t, "Poll", told(p.h.Poll(1, 9)), "1+n 1+p")
	is(t, "Poll", told(p.h.Poll(2, 9)), "1+n")
}

func TestP3TheSameCallsAnswerTheSame(t *testing.T) {
	made := func() string {
		r := rand.New(rand.NewSource(1303))
		p := begun()
		var b strings.Builder
		for range 20 {
			p.watch(t, drawnKey(r), drawnKey(r), 1)
		}
		for range 600 {
			switch r.Intn(6) {
			case 0:
				p.drawnWrite(t, r, 3)
			case 1:
				p.feed()
			default:
				b.WriteString(p.poll(t, 1+r.Intn(20), r.Intn(5)) + "\n")
			}
		}
		return b.String()
	}
	is(t, "all that was told", made() == made(), true)
}

// TestP7HubsAreOfTheirOwn: two hubs of one store, and one of another, have nothing in common.
func TestP7HubsAreOfTheirOwn(t *testing.T) {
	p, other := begun(), begun()
	twin := pair{p.s, watch.New(p.s), &model{keys: map[string]api.KV{}, watchers: map[int]*watched{}}}
	is(t, "Watch", p.h.Watch("a", "", 1), 1)
	is(t, "Watch", p.h.Watch("a", "", 1), 2)
	is(t, "Watch of a twin", twin.h.Watch("a", "z", 1), 1)
	is(t, "Watch of another", other.h.Watch("a", "", 1), 1)
	is(t, "Len", p.h.Len(), 2)
	is(t, "Len of a twin", twin.h.Len(), 1)
	for _, h := range []*watch.Hub{p.h, twin.h, other.h} {
		is(t, "Poll", told(h.Poll(1, 1)), "")
	}
	p.does(t, "a=1")
	p.h.Feed()
	is(t, "Poll of a twin that was not fed", told(twin.h.Poll(1, 1)), "")
	twin.h.Feed()
	other.h.Feed()
	is(t, "Close", p.h.Close(1), api.OK)
	is(t, "Poll", told(p.h.Poll(1, 1)), "none")
	is(t, "Poll of a twin", told(twin.h.Poll(1, 1)), "1+a")
	is(t, "Poll of another", told(other.h.Poll(1, 1)), "")
	is(t, "Close of a twin", twin.h.Close(2), api.ErrNone)
	is(t, "Poll", told(p.h.Poll(2, 1)), "1+a")
}

// TestP7WatchingChangesNothing: the store is asked, not written to.
func TestP7WatchingChangesNothing(t *testing.T) {
	p := behind(t)
	was := string(p.s.Save())
	open := p.s.Write()
	id := p.watch(t, "a", "z", 1)
	p.polls(t, id, 3, "1+k1")
	p.feed()
	p.poll(t, id, 99)
	p.feed()
	p.close(t, id)
	is(t, "the store", string(p.s.Save()) == was, true)
	is(t, "Put", open.Put("z", "", 0), api.OK) // a write that was open is open still
	is(t, "Done", open.Done(), 6)
}
