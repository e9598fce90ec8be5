package machine_test

import (
	"bytes"
	"fmt"
	"math/rand"
	"testing"

	"horologe/api"
	"horologe/machine"
)

// bulk draws commands that change many keys at once.
type bulk struct {
	*rand.Rand
	keys, leases int
}

func (b *bulk) key() string { return fmt.Sprintf("k%03d", b.Intn(b.keys)) }

// ends draws two keys, in order.
func (b *bulk) ends() (string, string) {
	lo, hi := b.key(), b.key()
	return min(lo, hi), max(lo, hi) + "x"
}

// txn draws up to 32 operations: puts of keys that no deletion has in its range, and ranges between.
func (b *bulk) txn(x *machine.Machine) api.Cmd {
	var ops []api.Op
	leases := x.Leases()
	lo, hi := b.ends()
	deletes := b.Intn(6) == 0
	used := map[string]int{}
	for range 1 + b.Intn(32) {
		key := b.key()
		from, to := b.ends()
		switch n := b.Intn(20); {
		case n < 3:
			ops = append(ops, get(from, to, b.Intn(9)))
		case n == 3:
			ops = append(ops, get(key, "", 0))
		case n < 6 && deletes:
			ops = append(ops, del(lo, hi))
		case n < 7 && deletes:
			ops = append(ops, del(max(lo, min(key, hi)), ""))
		case used[key] == 0 && !(deletes && key >= lo && key <= hi):
			used[key]++
			op := put(key, fmt.Sprint(b.Intn(5)))
			if b.Intn(6) > 0 && len(leases) > 0 {
				op.Lease = leases[b.Intn(len(leases))].Id
			}
			ops = append(ops, op)
		}
	}
	return cmd(ops...)
}

func (b *bulk) command(x *machine.Machine) api.Cmd {
	id := 1 + b.Intn(b.leases)
	switch n := b.Intn(40); {
	case n < 4:
		return grant(id, 1+b.Intn(4))
	case n < 6:
		return renew(id)
	case n == 6:
		return revoke(id)
	case n == 7:
		return expire()
	case n < 11:
		return clock(x.Clock() + b.Intn(3))
	case n == 11:
		return compact(x.Store().Rev() - b.Intn(20))
	}
	return b.txn(x)
}

// TestP1203WhatCommandsLeaveIsTaken draws commands that put and delete many keys, with leases that end, and loads what they leave.
func TestP1203WhatCommandsLeaveIsTaken(t *testing.T) {
	long, told := 0, 0
	for seed := range int64(12) {
		b := &bulk{rand.New(rand.NewSource(120300 + seed)), []int{150, 400, 40}[seed%3], []int{3, 5, 2}[seed%3]}
		x := machine.New()
		for id := 1; id <= b.leases; id++ {
			x.Apply(grant(id, 1+b.Intn(4)))
		}
		for i := range 250 {
			c := b.command(x)
			if b.Intn(2) == 0 {
				c = by(1+b.Intn(8), i+1, c)
			}
			rev := x.Store().Rev()
			reply := x.Apply(c)
			if len(reply.Results) > 0 && c.Client > 0 {
				told++
			}
			if events, _ := x.Store().Since(rev + 1); len(events) > 40 && c.Kind != api.CTxn {
				long++
			}
			if i%5 == 0 {
				y := loaded(t, x)
				is(t, "Save", bytes.Equal(y.Save(), x.Save()), true)
			}
		}
	}
	if long < 10 || told < 200 {
		t.Errorf("only %d times many keys of leases went, %d times a client was told something", long, told)
	}
}
