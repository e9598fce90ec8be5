package watch_test

import (
	"fmt"
	"strings"
	"testing"

	"horologe/api"
	"horologe/mvcc"
	"horologe/watch"
)

// watched is a watcher of the model: it is told all by going through all changes that ever were.
type watched struct {
	lo, hi string
	place  int
	behind bool
	buffer []api.Event
	end    api.Errno
}

// model is a store and a hub, as plain as can be.
type model struct {
	events         []api.Event // all that ever were
	keys           map[string]api.KV
	rev, compacted int
	last           int
	watchers       map[int]*watched
}

// pair is a store with a hub, and the model of both.
type pair struct {
	s *mvcc.Store
	h *watch.Hub
	m *model
}

func begun() pair {
	s := mvcc.New()
	return pair{s, watch.New(s), &model{keys: map[string]api.KV{}, watchers: map[int]*watched{}}}
}

// does makes one revision of texts: "a=v" puts, "-a" deletes a, which must be there.
func (p pair) does(t *testing.T, ops ...string) {
	t.Helper()
	w := p.s.Write()
	p.m.rev++
	for _, op := range ops {
		e := api.Event{Rev: p.m.rev}
		if key, is := strings.CutPrefix(op, "-"); is {
			if w.Delete(key, "") != 1 {
				t.Fatalf("%s: not there", op)
			}
			e.Del, e.KV = true, api.KV{Key: key, Mod: p.m.rev}
			delete(p.m.keys, key)
		} else {
			key, value, _ := strings.Cut(op, "=")
			if err := w.Put(key, value, len(value)); err != api.OK {
				t.Fatalf("%s: %v", op, err)
			}
			was, there := p.m.keys[key]
			if !there {
				was.Create = p.m.rev
			}
			e.KV = api.KV{Key: key, Value: value, Create: was.Create, Mod: p.m.rev, Version: was.Version + 1, Lease: len(value)}
			p.m.keys[key] = e.KV
		}
		p.m.events = append(p.m.events, e)
	}
	is(t, "Done", w.Done(), p.m.rev)
}

func (p pair) compact(t *testing.T, rev int) {
	t.Helper()
	is(t, "Compact", p.s.Compact(rev), api.OK)
	p.m.compacted = rev
}

func (p pair) watch(t *testing.T, lo, hi string, from int) int {
	t.Helper()
	p.m.last++
	p.m.watchers[p.m.last] = &watched{lo: lo, hi: hi, place: max(from, 1), behind: true}
	is(t, fmt.Sprintf("Watch(%q, %q, %d)", lo, hi, from), p.h.Watch(lo, hi, from), p.m.last)
	return p.m.last
}

func (p pair) feed() {
	p.h.Feed()
	for _, w := range p.m.watchers {
		if w.behind || w.end != api.OK {
			continue
		}
		if w.place <= p.m.compacted {
			w.end = api.ErrPast
			continue
		}
		got := append([]api.Event{}, w.buffer...)
		for _, e := range p.m.events {
			if w.waitsFor(e) {
				got = append(got, e)
			}
		}
		if len(got) > 16 {
			w.end = api.ErrFull
			continue
		}
		w.buffer, w.place = got, max(w.place, p.m.rev+1)
	}
}

// poll tells what the hub told, and holds it against the model.
func (p pair) poll(t *testing.T, id, most int) string {
	t.Helper()
	events, err := p.h.Poll(id, most)
	if err != api.OK && events != nil {
		t.Errorf("P4: Poll(%d, %d): %v beside %v", id, most, events, err)
	}
	want, wantErr := p.m.poll(id, most)
	is(t, fmt.Sprintf("Poll(%d, %d)", id, most), full(events, err), full(want, wantErr))
	is(t, "Len", p.h.Len(), len(p.m.watchers))
	return told(events, err)
}

func (p pair) close(t *testing.T, id int) api.Errno {
	t.Helper()
	want := api.ErrNone
	if p.m.watchers[id] != nil {
		want = api.OK
	}
	delete(p.m.watchers, id)
	got := p.h.Close(id)
	is(t, fmt.Sprintf("Close(%d)", id), got, want)
	is(t, "Len", p.h.Len(), len(p.m.watchers))
	return got
}

func (w *watched) waitsFor(e api.Event) bool {
	in := e.KV.Key == w.lo
	if w.hi != "" {
		in = e.KV.Key >= w.lo && e.KV.Key < w.hi
	}
	return in && e.Rev >= w.place
}

func (m *model) poll(id, most int) ([]api.Event, api.Errno) {
	w := m.watchers[id]
	if w == nil {
		return nil, api.ErrNone
	}
	most = max(most, 1)
	if w.behind {
		if w.place > m.compacted {
			return m.catchUp(w, most), api.OK
		}
		delete(m.watchers, id)
		return nil, api.ErrPast
	}
	if len(w.buffer) == 0 && w.end != api.OK {
		delete(m.watchers, id)
		return nil, w.end
	}
	n := min(most, len(w.buffer))
	got := w.buffer[:n]
	w.buffer = w.buffer[n:]
	return got, api.OK
}

// catchUp goes on revision by revision, till the next one is too much.
func (m *model) catchUp(w *watched, most int) []api.Event {
	var got []api.Event
	for rev := w.place; rev <= m.rev; rev++ {
		var next []api.Event
		for _, e := range m.events {
			if e.Rev == rev && w.waitsFor(e) {
				next = append(next, e)
			}
		}
		if len(next) > 0 && len(got) > 0 && len(got)+len(next) > most {
			w.place = got[len(got)-1].Rev + 1
			return got
		}
		got = append(got, next...)
	}
	w.behind, w.place = false, max(w.place, m.rev+1)
	return got
}

// told is what was told, in short: 3+a is a put at 3, 4-a a deletion at 4.
func told(events []api.Event, err api.Errno) string {
	if err != api.OK {
		return err.Error()
	}
	var l []string
	for _, e := range events {
		sign := "+"
		if e.Del {
			sign = "-"
		}
		l = append(l, fmt.Sprint(e.Rev, sign, e.KV.Key))
	}
	return strings.Join(l, " ")
}

func full(events []api.Event, err api.Errno) string { return fmt.Sprintf("%+v %v", events, err) }

func is[T comparable](t *testing.T, what string, got, want T) {
	t.Helper()
	if got != want {
		t.Errorf("%s: %v, not %v", what, got, want)
	}
}

// polls holds polls of one watcher, one behind the other, against what they must tell.
func (p pair) polls(t *testing.T, id, most int, want ...string) {
	t.Helper()
	for i, x := range want {
		if got := p.poll(t, id, most); got != x {
			t.Errorf("poll %d of watcher %d: %q, not %q", i+1, id, got, x)
		}
	}
}
