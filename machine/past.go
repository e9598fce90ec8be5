package machine

import (
	"cmp"
	"slices"

	"horologe/api"
	"horologe/mvcc"
)

// past goes through what bytes tell of a machine's past, revision by revision, and looks for commands that can have made it. Commands of nobody, which leave nothing but what they did, may always have been there as well.
type past struct {
	*scene
	replies []api.Reply // those to come, as they were answered one behind the other
	terms
}

// couldBeDone tells whether commands can have left the machine's store and its replies, with its leases and its clock.
func (m *Machine) couldBeDone() bool {
	replies := m.replies()
	for i := range replies[min(1, len(replies)):] {
		if replies[i].Time > replies[i+1].Time {
			return false
		}
	}
	from := m.store.Compacted()
	base := keysAt(m.store, from)
	n, _ := slices.BinarySearchFunc(replies, from+1, byRev)
	p := &past{scene: newScene(base), replies: replies[n:], terms: newTerms(m.leases.All(), m.clock)}
	if !couldBeCompacted(limitsOfAll(), from, p.latest(), base, replies[:n]) {
		return false
	}
	if n > 0 {
		p.now = replies[n-1].Time
	}
	events, _ := m.store.Since(from + 1) // nothing behind from was compacted
	for len(events) > 0 {
		n := revisionOf(events)
		if !p.makes(events[:n]) {
			return false
		}
		events = events[n:]
	}
	return true
}

// replies tells those of all clients, by Rev, then by Time: as revisions and the clock go on, they were answered in this order.
func (m *Machine) replies() []api.Reply {
	var all []api.Reply
	for _, row := range m.calls.All() {
		all = append(all, row.Reply)
	}
	slices.SortStableFunc(all, func(a, b api.Reply) int { return cmp.Or(cmp.Compare(a.Rev, b.Rev), cmp.Compare(a.Time, b.Time)) })
	return all
}

func byRev(r api.Reply, rev int) int { return cmp.Compare(r.Rev, rev) }

func byKey(kv api.KV, key string) int { return cmp.Compare(kv.Key, key) }

// keysAt tells all that were there at a revision, rising.
func keysAt(s *mvcc.Store, rev int) []api.KV {
	if rev == 0 {
		return nil // which Range takes for the present
	}
	all, _, _ := s.Range("", beyond(), rev, 0)
	return all
}

// revisionOf tells how many of some changes are of the first one's revision.
func revisionOf(events []api.Event) int {
	n := 1
	for n < len(events) && events[n].Rev == events[0].Rev {
		n++
	}
	return n
}

// latest tells what time it is, at the latest.
func (p *past) latest() int {
	if len(p.replies) > 0 {
		return p.replies[0].Time
	}
	return p.clock
}

// makes goes on by one revision, and by the replies that were answered at it, if commands can do that.
func (p *past) makes(events []api.Event) bool {
	n, _ := slices.BinarySearchFunc(p.replies, events[0].Rev+1, byRev)
	at := p.replies[:n]
	latest := p.latest()
	if len(events) > api.MaxOps || n > 0 { // else each change can be an operation of its own
		runs := p.runs(events)
		made, fits := p.maker(events, runs, at)
		if !fits || opsOf(runs) > api.MaxOps && !p.end(p.scene, events) {
			return false
		}
		if made {
			p.now = max(p.now, latest) // just then
		}
	}
	if p.now > latest || !p.hold(p.scene, events) {
		return false
	}
	for _, e := range events {
		p.do(e)
	}
	if n > 0 {
		p.now = at[n-1].Time
	}
	p.replies = p.replies[n:]
	return true
}

// maker tells whether one of the replies at a revision is that of the transaction that made it, and whether they fit it: all others found it made.
func (p *past) maker(events []api.Event, runs []int, at []api.Reply) (made, fits bool) {
	if len(at) == 0 {
		return false, true
	}
	behind := p.clone()
	for _, e := range events {
		behind.do(e)
	}
	for _, r := range at {
		if behind.answers(limitsOfAll(), r) {
			continue
		}
		if made || r.Time != at[0].Time || !p.couldMake(events, runs, r.Results) {
			return false, false
		}
		made = true
	}
	return made, true
}
