package raft

import (
	"slices"

	"horologe/api"
)

// Step takes a message. One of a later term is heard in that term.
func (r *Raft) Step(m api.Msg) {
	r.begin()
	if !r.takes(m) {
		return
	}
	switch {
	case m.Term > r.hard.Term:
		r.hard.Term, r.hard.Vote = m.Term, nobody
		r.follow(nobody)
		fallthrough
	case m.Term == r.hard.Term:
		r.hear(m)
	default:
		r.refuse(m)
	}
}

// takes tells whether a message may be, and is this node's.
func (r *Raft) takes(m api.Msg) bool {
	if m.To != r.id || m.From == r.id || !isId(m.From) || m.Term < 0 || m.Term > maxTerm || !inOrder(m.Index, m.LogTerm, m.Term, m.Entries) {
		return false
	}
	switch m.Kind {
	case api.MSnap:
		if !isSnap(m) {
			return false
		}
		fallthrough
	case api.MVote, api.MVoteReply, api.MApp, api.MAppReply:
		return true
	}
	return false
}

// refuse answers a message whose term is over.
func (r *Raft) refuse(m api.Msg) {
	switch m.Kind {
	case api.MVote:
		r.answer(m, api.Msg{Kind: api.MVoteReply})
	case api.MApp, api.MSnap:
		r.answer(m, api.Msg{Kind: api.MAppReply, Match: r.last(), Seq: m.Seq})
	}
}

// hear takes a message of the node's own term.
func (r *Raft) hear(m api.Msg) {
	switch m.Kind {
	case api.MVote:
		r.vote(m)
	case api.MVoteReply:
		if _, stands := r.role.(*standing); stands && m.OK && slices.Contains(r.voters, m.From) {
			r.count(m.From)
		}
	case api.MAppReply:
		if _, leads := r.leads(); leads && slices.Contains(r.voters, m.From) {
			r.replied(m)
		}
	case api.MApp, api.MSnap:
		if _, leads := r.leads(); !leads {
			r.led(m)
		}
	}
}

func (r *Raft) vote(m api.Msg) {
	last, term := r.last(), r.term(r.last())
	free := r.hard.Vote == nobody || r.hard.Vote == m.From
	grants := free && (m.LogTerm > term || m.LogTerm == term && m.Index >= last)
	if grants {
		r.hard.Vote = m.From
		r.waitAnew()
	}
	r.answer(m, api.Msg{Kind: api.MVoteReply, OK: grants})
}

// led follows whoever a message is from, and does what it says.
func (r *Raft) led(m api.Msg) {
	r.follow(m.From)
	r.waitAnew()
	reply := api.Msg{Kind: api.MAppReply, Seq: m.Seq}
	if m.Kind == api.MSnap {
		reply.OK, reply.Match = true, r.restore(m)
	} else {
		reply.OK, reply.Match = r.append(m)
	}
	r.answer(m, reply)
}

// append lays a message's entries, if the log has what they stand behind: up to where the log is as the leader's, or else where to try again.
func (r *Raft) append(m api.Msg) (bool, int) {
	if m.Index < r.hard.Commit {
		return true, r.hard.Commit
	}
	if !r.has(m.Index, m.LogTerm) {
		return false, min(r.last(), m.Index-1)
	}
	known := 0
	for known < len(m.Entries) && r.has(m.Entries[known].Index, m.Entries[known].Term) {
		known++
	}
	r.lay(cloneEntries(m.Entries[known:])...)
	end := m.Index + len(m.Entries)
	r.hard.Commit = max(r.hard.Commit, min(m.Commit, end))
	return true, end
}

// restore takes a message's snapshot, unless it tells nothing new: up to where the log is as the leader's.
func (r *Raft) restore(m api.Msg) int {
	if m.Meta.Index > r.hard.Commit {
		r.cut(m.Meta, m.Data)
		r.hard.Commit, r.applied, r.snap = m.Meta.Index, m.Meta.Index, true
	}
	return r.hard.Commit
}
