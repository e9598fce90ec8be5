package raft

import (
	"slices"

	"horologe/api"
)

// role is what a node is, with all that it knows as long as it is that.
type role interface {
	kind() int
	leader(id int) int // as the node of that id knows it
	tick(r *Raft)
}

// patience is how many ticks a node has waited for a leader, and when it waits no longer.
type patience struct {
	ticks, limit int
}

type following struct {
	patience
	leads int
}

type standing struct {
	patience
	votes map[int]struct{} // of whom it has them
}

type leading struct {
	ticks int // since it led, or sent to all by one
	peers map[int]*peer
	round int // of reads
	waits []wait
}

// peer is what a leader knows of another voter.
type peer struct {
	next, match int
	heard       int // the latest round
}

// wait is a read that is not confirmed yet.
type wait struct {
	Read
	round int
}

func (*following) kind() int { return Follower }
func (*standing) kind() int  { return Candidate }
func (*leading) kind() int   { return Leader }

func (f *following) leader(int) int { return f.leads }
func (*standing) leader(int) int    { return nobody }
func (*leading) leader(id int) int  { return id }

func (p *patience) tick(r *Raft) {
	p.ticks++
	if p.ticks >= p.limit && slices.Contains(r.voters, r.id) {
		r.stand()
	}
}

func (l *leading) tick(r *Raft) {
	l.ticks++
	if l.ticks == api.Beat {
		l.ticks = 0
		r.sendToAll()
	}
}

// anew is the patience of a node that begins to wait now.
func (r *Raft) anew() patience { return patience{limit: api.Patience + r.draw} }

// waitAnew lets a follower be patient again. Whoever grants a vote is one: the others have voted for themselves.
func (r *Raft) waitAnew() { r.role.(*following).patience = r.anew() }

// leads tells a leader's part, if the node has one.
func (r *Raft) leads() (*leading, bool) {
	l, is := r.role.(*leading)
	return l, is
}

// follow lets a node be a follower, of a leader or of nobody: one that is none waits anew.
func (r *Raft) follow(leader int) {
	f, is := r.role.(*following)
	if !is {
		f = &following{patience: r.anew()}
		r.role = f
	}
	f.leads = leader
}

func (r *Raft) stand() {
	r.hard.Term++
	r.hard.Vote = r.id
	r.role = &standing{patience: r.anew(), votes: map[int]struct{}{}}
	for _, id := range r.others() {
		r.send(api.Msg{Kind: api.MVote, To: id, Index: r.last(), LogTerm: r.term(r.last())})
	}
	r.count(r.id)
}

// count lets a candidate have a voter's vote.
func (r *Raft) count(id int) {
	votes := r.role.(*standing).votes
	votes[id] = struct{}{}
	if r.most(len(votes)) {
		r.lead()
	}
}

func (r *Raft) lead() {
	l := &leading{peers: map[int]*peer{}}
	for _, id := range r.others() {
		l.peers[id] = &peer{next: r.last() + 1}
	}
	r.role = l
	r.extend(api.EEmpty, nil)
	r.sendToAll()
	r.commit()
}

// others tells the voters but the node itself.
func (r *Raft) others() []int {
	return slices.DeleteFunc(slices.Clone(r.voters), func(id int) bool { return id == r.id })
}

// most tells whether so many voters are more than half of them.
func (r *Raft) most(n int) bool { return 2*n > len(r.voters) }
