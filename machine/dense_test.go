package machine

import (
	"fmt"
	"math/rand"
	"testing"

	"horologe/api"
)

// dense draws commands that leave little room: transactions of many operations, on few keys, by many clients.
type dense struct {
	*rand.Rand
	m                  *Machine
	keys, per, clients int // per: how many operations a transaction has, at most
	full               int // out of 10 how many transactions have as many
	seq                int
}

func (d *dense) key() string { return fmt.Sprintf("k%03d", d.Intn(d.keys)) }

func (d *dense) txn() api.Cmd {
	var ops []api.Op
	n := 1 + d.Intn(d.per)
	if d.Intn(10) < d.full {
		n = d.per
	}
	used := map[string]int{}
	leases := d.m.leases.All()
	mode := d.Intn(8)
	for tries := 0; len(ops) < n && tries < 400; tries++ {
		k := d.key()
		switch x := d.Intn(20); {
		case mode == 0 && x < 8 && used[k] == 0:
			used[k]++
			ops = append(ops, api.Op{Kind: api.ODelete, Key: k})
		case x == 9:
			ops = append(ops, api.Op{Kind: api.ORange, Key: k, End: "z", Limit: d.Intn(5)})
		case x == 10:
			ops = append(ops, api.Op{Kind: api.ORange, Key: k})
		case used[k] == 0 && mode != 1:
			used[k]++
			op := api.Op{Key: k}
			if len(leases) > 0 && d.Intn(3) == 0 {
				op.Lease = leases[d.Intn(len(leases))].Id
			}
			ops = append(ops, op)
		case mode == 1 && len(ops) < 3:
			lo, hi := k, d.key()
			ops = append(ops, api.Op{Kind: api.ODelete, Key: min(lo, hi), End: max(lo, hi) + "x"})
		}
	}
	return api.Cmd{Txn: api.Txn{Then: ops}}
}

func (d *dense) step() {
	c := d.txn()
	switch d.Intn(25) {
	case 0:
		c = api.Cmd{Kind: api.CGrant, Lease: 1 + d.Intn(4), TTL: 1 + d.Intn(3)}
	case 1:
		c = api.Cmd{Kind: api.CRevoke, Lease: 1 + d.Intn(4)}
	case 2:
		c = api.Cmd{Kind: api.CClock, Time: d.m.clock + d.Intn(3)}
	case 3:
		c = api.Cmd{Kind: api.CExpire}
	case 4:
		c = api.Cmd{Kind: api.CCompact, Rev: d.m.store.Rev() - d.Intn(4)}
	}
	if d.Intn(3) > 0 {
		d.seq++
		c.Client, c.Seq = 1+d.Intn(d.clients), d.seq
	}
	d.m.Apply(c)
}

// TestP1203WhatDenseCommandsLeaveIsTaken: behind each few of them it is compacted, saved and loaded.
func TestP1203WhatDenseCommandsLeaveIsTaken(t *testing.T) {
	for seed := range int64(150) {
		r := rand.New(rand.NewSource(120330 + seed))
		d := &dense{Rand: r, m: New(), keys: []int{5, 33, 40, 64, 70, 100, 200}[r.Intn(7)], per: []int{1, 3, 31, 32, 32, 32}[r.Intn(6)], clients: []int{1, 2, 5, 20, 64}[r.Intn(5)], full: r.Intn(11)}
		for i := range 4 + r.Intn(40) {
			if d.step(); r.Intn(4) == 0 {
				d.m.Apply(api.Cmd{Kind: api.CCompact, Rev: d.m.store.Rev()})
			}
			if r.Intn(2) == 0 && i > 6 {
				continue
			}
			m, err := Load(d.m.Save())
			if err != api.OK {
				t.Fatalf("seed %d, step %d: refused", seed, i)
			}
			if r.Intn(2) == 0 {
				d.m = m
			}
		}
	}
}
