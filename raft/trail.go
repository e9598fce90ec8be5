package raft

import (
	"slices"

	"horologe/api"
)

// trail is a log: where it begins, and the entries behind that. The bytes of an entry, and of a snapshot, are never changed.
type trail struct {
	meta    api.Meta
	data    []byte // the snapshot's, of meta
	entries []api.Entry
	first   []int // the voters as long as nothing else tells them
	voters  []int
	old     int // Ready has told the entries up to this one as they are
}

func newTrail(voters []int, m api.Meta, data []byte, log []api.Entry) trail {
	t := trail{meta: cloneMeta(m), data: slices.Clone(data), entries: cloneEntries(log), first: slices.Clone(voters)}
	t.old = t.last()
	t.voters = t.votersAt(t.last())
	return t
}

func (t *trail) last() int { return t.meta.Index + len(t.entries) }

// term tells that of an entry which is there, or of meta's.
func (t *trail) term(index int) int {
	switch index {
	case 0:
		return 0
	case t.meta.Index:
		return t.meta.Term
	}
	return t.entries[index-t.meta.Index-1].Term
}

// has tells whether there is an entry of that term.
func (t *trail) has(index, term int) bool { return index <= t.last() && t.term(index) == term }

// between tells the entries behind one, up to another one.
func (t *trail) between(index, to int) []api.Entry {
	return t.entries[index-t.meta.Index : to-t.meta.Index]
}

// news tells the entries that Ready has not told as they are; it has then.
func (t *trail) news() []api.Entry {
	old := max(t.old, t.meta.Index)
	t.old = t.last()
	return t.between(min(old, t.last()), t.last())
}

// lay lets entries, which are the log's own now, take the place of all from the first of them on.
func (t *trail) lay(list ...api.Entry) {
	if len(list) == 0 {
		return
	}
	ahead := list[0].Index - 1
	turns := ahead < t.last() || slices.ContainsFunc(list, tellsVoters) // else the voters need not be looked for
	t.old = min(t.old, ahead)
	t.entries = slices.Replace(t.entries, ahead-t.meta.Index, len(t.entries), list...)
	if turns {
		t.voters = t.votersAt(t.last())
	}
}

// votersAt tells who votes behind an entry.
func (t *trail) votersAt(index int) []int {
	for i := index - t.meta.Index - 1; i >= 0; i-- {
		if tellsVoters(t.entries[i]) {
			return votersOf(t.entries[i].Data)
		}
	}
	if t.meta.Index > 0 {
		return slices.Clone(t.meta.Voters)
	}
	return slices.Clone(t.first)
}

// cut lets a snapshot take the log's place: what is behind it stays, if the log has the snapshot's last entry.
func (t *trail) cut(m api.Meta, data []byte) {
	var rest []api.Entry
	if t.has(m.Index, m.Term) {
		rest = slices.Clone(t.between(m.Index, t.last())) // so that nothing of the front is kept
	}
	t.meta, t.data, t.entries = cloneMeta(m), slices.Clone(data), rest
	t.voters = t.votersAt(t.last())
}
