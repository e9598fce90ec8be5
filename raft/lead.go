package raft

import (
	"slices"

	"horologe/api"
)

// Propose lays bytes behind a leader's log.
func (r *Raft) Propose(data []byte) (int, int, api.Errno) {
	_, leads := r.leads()
	switch {
	case !leads:
		return 0, 0, api.ErrLeader
	case len(data) > api.MaxRecord:
		return 0, 0, api.ErrLong
	case r.last()-r.hard.Commit >= maxWait:
		return 0, 0, api.ErrFull
	}
	r.extend(api.EData, slices.Clone(data))
	index, term := r.last(), r.hard.Term
	r.sendToAll()
	r.commit()
	return index, term, api.OK
}

// Change lets one node more vote, or one less.
func (r *Raft) Change(voters ...int) (int, api.Errno) {
	l, leads := r.leads()
	switch {
	case !leads:
		return 0, api.ErrLeader
	case !areVoters(voters) || !isOneMore(voters, r.voters) && !isOneMore(r.voters, voters):
		return 0, api.ErrArg
	case !r.isReady() || slices.ContainsFunc(r.between(r.hard.Commit, r.last()), tellsVoters):
		return 0, api.ErrBusy
	}
	r.extend(api.EVoters, dataOf(voters))
	index := r.last()
	l.know(r.others(), index)
	r.sendToAll()
	r.commit()
	r.confirm()
	return index, api.OK
}

// isOneMore tells whether the longer one of two lists that rise is the other one and one more.
func isOneMore(longer, list []int) bool {
	if len(longer) != len(list)+1 {
		return false
	}
	at := 0
	for at < len(list) && longer[at] == list[at] {
		at++
	}
	return slices.Equal(longer[at+1:], list[at:])
}

// know lets a leader know of these voters alone; one that comes is tried from next on.
func (l *leading) know(voters []int, next int) {
	peers := map[int]*peer{}
	for _, id := range voters {
		p := l.peers[id]
		if p == nil {
			p = &peer{next: next}
		}
		peers[id] = p
	}
	l.peers = peers
}

// Read asks whether the node leads still; it is told by Ready when most have said so.
func (r *Raft) Read(ctx int) api.Errno {
	l, leads := r.leads()
	switch {
	case !leads:
		return api.ErrLeader
	case !r.isReady():
		return api.ErrReady
	case len(l.waits) >= maxWait:
		return api.ErrMany
	}
	l.round++
	l.waits = append(l.waits, wait{Read{ctx, r.hard.Commit}, l.round})
	r.sendToAll()
	r.confirm()
	return api.OK
}

// isReady tells whether an entry of a leader's term is committed: ahead of that it may not know how far is.
func (r *Raft) isReady() bool { return r.term(r.hard.Commit) == r.hard.Term }

// extend lays an entry of the leader's own behind the log.
func (r *Raft) extend(kind int, data []byte) {
	r.lay(api.Entry{Index: r.last() + 1, Term: r.hard.Term, Kind: kind, Data: data})
}

func (r *Raft) sendToAll() {
	for _, id := range r.others() {
		r.sendTo(id)
	}
}

func (r *Raft) sendTo(id int) {
	l := r.role.(*leading)
	next := l.peers[id].next
	if next <= r.meta.Index {
		r.send(api.Msg{Kind: api.MSnap, To: id, Meta: r.meta, Data: r.data, Seq: l.round})
		return
	}
	entries := slices.Clone(r.between(next-1, min(next-1+api.Batch, r.last())))
	r.send(api.Msg{Kind: api.MApp, To: id, Index: next - 1, LogTerm: r.term(next - 1), Entries: entries, Commit: r.hard.Commit, Seq: l.round})
}

// replied takes what a voter answers its leader.
func (r *Raft) replied(m api.Msg) {
	p := r.role.(*leading).peers[m.From]
	p.heard = max(p.heard, m.Seq)
	if m.OK {
		p.match = max(p.match, min(m.Match, r.last()))
		p.next = max(p.next, p.match+1)
	} else {
		p.next = max(p.match, min(m.Match, p.next-1)) + 1 // Match may be the greatest number
	}
	r.commit()
	r.confirm()
	if _, leads := r.leads(); leads && p.match < r.last() {
		r.sendTo(m.From)
	}
}

// commit looks what is committed. A leader that most have voted out is none any more.
func (r *Raft) commit() {
	at := r.reached(r.last(), func(p *peer) int { return p.match })
	if at <= r.hard.Commit || r.term(at) != r.hard.Term { // the terms ahead of it are no greater
		return
	}
	r.hard.Commit = at
	r.sendToAll()
	if !slices.Contains(r.voters, r.id) && !slices.ContainsFunc(r.between(at, r.last()), tellsVoters) {
		r.follow(nobody)
	}
}

// confirm looks which reads are confirmed; they are in the order of their rounds.
func (r *Raft) confirm() {
	l, leads := r.leads()
	if !leads {
		return
	}
	heard := r.reached(l.round, func(p *peer) int { return p.heard })
	for len(l.waits) > 0 && l.waits[0].round <= heard {
		r.reads = append(r.reads, l.waits[0].Read)
		l.waits = l.waits[1:]
	}
}

// reached tells the greatest number that most voters have reached, the leader's own being given.
func (r *Raft) reached(own int, of func(*peer) int) int {
	l := r.role.(*leading)
	var all []int
	for _, id := range r.voters {
		if id == r.id {
			all = append(all, own)
		} else {
			all = append(all, of(l.peers[id]))
		}
	}
	slices.Sort(all)
	return all[(len(all)-1)/2]
}
