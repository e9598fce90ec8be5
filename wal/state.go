package wal

import (
	"bytes"
	"cmp"
	"slices"

	"horologe/api"
)

// blank is the state ahead of all records.
func blank() State { return State{Hard: api.Hard{Vote: -1}} }

// sayFile goes on with a file's records. One that begins with a base says all: what the elder files said counts no more.
func (s *State) sayFile(records []record) {
	if len(records) == 0 {
		return
	}
	if _, ok := records[0].(base); ok {
		*s = blank()
	}
	for _, r := range records {
		s.say(r)
	}
}

func (s *State) say(r record) {
	if h, ok := r.(hard); ok {
		s.Hard = api.Hard(h)
	}
	if e, ok := r.(entry); ok {
		s.sayEntry(api.Entry(e))
	}
	if m, ok := r.(base); ok {
		s.sayBase(api.Meta(m))
	}
}

func (s *State) sayEntry(e api.Entry) {
	at, _ := s.place(e.Index)
	s.Entries = slices.Delete(s.Entries, at, len(s.Entries))
	if last := s.last(); e.Index > last && e.Index-1 == last { // asked in two steps: a file may tell numbers that wrap round
		s.Entries = append(s.Entries, e)
	}
}

// sayBase changes no entry where it lies: a Cut that fails goes on with the list as it was.
func (s *State) sayBase(m api.Meta) {
	at, found := s.place(m.Index)
	switch {
	case found && s.Entries[at].Term == m.Term:
		s.Entries = s.Entries[at+1:]
	case s.Meta.Index != m.Index || s.Meta.Term != m.Term:
		s.Entries = nil
	}
	s.Meta = m
}

// place tells where the entry of an index stands, or would stand, and whether it is there.
func (s *State) place(index int) (int, bool) {
	return slices.BinarySearchFunc(s.Entries, index, func(e api.Entry, index int) int { return cmp.Compare(e.Index, index) })
}

// last tells the last entry's index, or Meta's, if there is none.
func (s *State) last() int { return s.Meta.Index + len(s.Entries) }

// records tells those that say the whole state.
func (s *State) records() []record {
	all := []record{base(s.Meta), hard(s.Hard)}
	for _, e := range s.Entries {
		all = append(all, entry(e))
	}
	return all
}

// copied tells the same state in memory of its own.
func (s *State) copied() State {
	c := *s
	c.Meta.Voters = slices.Clone(s.Meta.Voters)
	c.Entries = ownEntries(s.Entries)
	for i := range c.Entries {
		c.Entries[i].Data = bytes.Clone(c.Entries[i].Data)
	}
	return c
}

// ownEntries tells the same entries in a list of their own, so that those that stood beside them are kept no longer.
func ownEntries(list []api.Entry) []api.Entry { return append([]api.Entry(nil), list...) }
