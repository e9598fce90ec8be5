package node

import (
	"horologe/api"
	"horologe/mvcc"
	"horologe/raft"
)

// shown is what a node shows: a living one what it is made of, a dead one nothing.
type shown interface {
	Store() *mvcc.Store
	Clock() int
	Applied() int
	Hard() api.Hard
	Role() int
	Leader() int
	Voters() []int
	Save() []byte
}

type nothing struct{}

func (n *Node) shown() shown {
	if n.Dead() {
		return nothing{}
	}
	return n.life
}

func (nothing) Store() *mvcc.Store { return mvcc.New() }
func (nothing) Clock() int         { return 0 }
func (nothing) Applied() int       { return 0 }
func (nothing) Hard() api.Hard     { return api.Hard{} }
func (nothing) Role() int          { return raft.Follower }
func (nothing) Leader() int        { return -1 }
func (nothing) Voters() []int      { return nil }
func (nothing) Save() []byte       { return nil }
