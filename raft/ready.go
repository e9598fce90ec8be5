package raft

import (
	"slices"

	"horologe/api"
)

// Ready is what is to be saved, then sent, then done.
type Ready struct {
	HasHard bool
	Hard    api.Hard
	HasSnap bool
	Meta    api.Meta
	Data    []byte
	Entries []api.Entry
	Msgs    []api.Msg
	Commit  []api.Entry
	Reads   []Read
}

// Ready tells what came since it was asked last.
func (r *Raft) Ready() Ready {
	out := Ready{Entries: cloneEntries(r.news()), Msgs: r.msgs, Commit: cloneEntries(r.between(r.applied, r.hard.Commit)), Reads: r.reads}
	for i, m := range out.Msgs {
		out.Msgs[i] = cloneMsg(m)
	}
	if r.hard != r.told {
		out.HasHard, out.Hard = true, r.hard
	}
	if r.snap {
		out.HasSnap, out.Meta, out.Data = true, cloneMeta(r.meta), slices.Clone(r.data)
	}
	r.told, r.applied, r.snap, r.msgs, r.reads = r.hard, r.hard.Commit, false, nil, nil
	return out
}

// send lets a message be told; what it has of the log and the snapshot is copied when it is.
func (r *Raft) send(m api.Msg) {
	m.From, m.Term = r.id, r.hard.Term
	r.msgs = append(r.msgs, m)
}

// answer sends a reply to whoever a message is from.
func (r *Raft) answer(to, reply api.Msg) {
	reply.To = to.From
	r.send(reply)
}

func cloneMeta(m api.Meta) api.Meta {
	m.Voters = slices.Clone(m.Voters)
	return m
}

func cloneMsg(m api.Msg) api.Msg {
	m.Entries, m.Meta, m.Data = cloneEntries(m.Entries), cloneMeta(m.Meta), slices.Clone(m.Data)
	return m
}

func cloneEntries(list []api.Entry) []api.Entry {
	list = slices.Clone(list)
	for i, e := range list {
		list[i].Data = slices.Clone(e.Data)
	}
	return list
}
