package net

import (
	"bytes"
	"slices"

	"horologe/api"
)

func Same(a, b api.Msg) bool {
	return a.Kind == b.Kind && a.From == b.From && a.To == b.To &&
		a.Term == b.Term && a.Index == b.Index && a.LogTerm == b.LogTerm &&
		slices.EqualFunc(a.Entries, b.Entries, sameEntry) &&
		a.Commit == b.Commit && a.Seq == b.Seq && a.OK == b.OK && a.Match == b.Match &&
		sameMeta(a.Meta, b.Meta) && bytes.Equal(a.Data, b.Data)
}

func sameEntry(a, b api.Entry) bool {
	return a.Index == b.Index && a.Term == b.Term && a.Kind == b.Kind && bytes.Equal(a.Data, b.Data)
}

func sameMeta(a, b api.Meta) bool {
	return a.Index == b.Index && a.Term == b.Term && slices.Equal(a.Voters, b.Voters)
}

// clone tells a message that has nothing in common with m.
func clone(m api.Msg) api.Msg {
	m.Entries = cloneList(m.Entries)
	for i, e := range m.Entries {
		m.Entries[i].Data = cloneList(e.Data)
	}
	m.Meta.Voters = cloneList(m.Meta.Voters)
	m.Data = cloneList(m.Data)
	return m
}

// cloneList tells a list in memory of its own, without spare room; an empty one has no memory, not even a place in the old one's.
func cloneList[T any](list []T) []T {
	if len(list) == 0 {
		return nil
	}
	own := make([]T, len(list))
	copy(own, list)
	return own
}
