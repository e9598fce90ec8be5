package watch

import (
	"slices"

	"horologe/api"
	"horologe/mvcc"
)

// watcher is one that is behind, or one that is fed.
type watcher interface {
	from() int             // its place
	hears(key string) bool // whether the key is one of its range
}

// ear is what all watchers have.
type ear struct {
	lo, hi string
	place  int // the revision from which on it has yet to hear
}

func (e *ear) from() int { return e.place }

func (e *ear) hears(key string) bool {
	if e.hi == "" {
		return key == e.lo
	}
	return e.lo <= key && key < e.hi
}

// pass lets all that the store has be behind it.
func (e *ear) pass(s *mvcc.Store) { e.place = max(e.place, s.Rev()+1) }

// behind looks into the store itself, whenever it is polled.
type behind struct {
	ear
}

// catchUp tells revisions as whole ones, and whether no more are there.
func (b *behind) catchUp(s *mvcc.Store, most int) ([]api.Event, bool, api.Errno) {
	events, err := news(s, b)
	if err != api.OK {
		return nil, false, err
	}
	n := whole(events, most)
	all := n == len(events)
	if all {
		b.pass(s)
	} else {
		b.place = events[n-1].Rev + 1
	}
	return slices.Clone(events[:n]), all, api.OK // not what is a piece of all the others
}

// whole tells how many events the first revisions have, most in all; or the first one alone, if it has more.
func whole(events []api.Event, most int) int {
	n := 0
	for i := range events {
		last := i+1 == len(events) || events[i+1].Rev != events[i].Rev
		if !last {
			continue
		}
		if n > 0 && i >= most {
			break
		}
		n = i + 1
	}
	return n
}

// fed hears by Feed alone.
type fed struct {
	ear
	buffer []api.Event
	end    api.Errno // what it is told behind its buffer: ErrFull, if it is overflown, ErrPast, if it is cut off
}

func (f *fed) feed(s *mvcc.Store) {
	if f.end != api.OK {
		return
	}
	events, err := news(s, f)
	switch {
	case err != api.OK:
		f.end = err
	case len(f.buffer)+len(events) > api.MaxBuffer:
		f.end = api.ErrFull
	default:
		f.buffer = append(f.buffer, events...)
		f.pass(s)
	}
}

// take tells the first events of the buffer, which are in it no more.
func (f *fed) take(most int) ([]api.Event, api.Errno) {
	if len(f.buffer) == 0 {
		return nil, f.end
	}
	n := min(most, len(f.buffer))
	events := slices.Clone(f.buffer[:n])
	f.buffer = slices.Delete(f.buffer, 0, n)
	return events, api.OK
}
