package machine

import (
	"horologe/api"
	"horologe/pen"
)

// command is what is to be done, whoever asks for it: of each kind the fields that stand in its bytes behind Kind.
type command interface {
	write(w *pen.Writer)
}

type transaction struct {
	api.Txn
}

type grant struct {
	named
	ttl int
}

type renewal struct {
	named
}

type revocation struct {
	named
}

type setting struct {
	time int
}

type expiry struct{}

type compaction struct {
	rev int
}

// named is the lease that a command is about.
type named struct {
	id int
}

// commandOf tells what a command asks for: nil, if there is no such kind.
func commandOf(c api.Cmd) command {
	switch c.Kind {
	case api.CTxn:
		return transaction{c.Txn}
	case api.CGrant:
		return grant{named{c.Lease}, c.TTL}
	case api.CRenew:
		return renewal{named{c.Lease}}
	case api.CRevoke:
		return revocation{named{c.Lease}}
	case api.CClock:
		return setting{c.Time}
	case api.CExpire:
		return expiry{}
	case api.CCompact:
		return compaction{c.Rev}
	}
	return nil
}
