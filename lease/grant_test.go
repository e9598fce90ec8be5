package lease_test

import (
	"fmt"
	"math"
	"math/rand"
	"testing"

	"horologe/api"
	"horologe/lease"
)

// TestP1001Grant grants one lease beside another one: what is refused changes nothing.
func TestP1001Grant(t *testing.T) {
	for _, c := range []struct {
		id, ttl, now int
		want         api.Errno
	}{
		{1, 1, 0, api.OK}, {1, 5, 10, api.OK}, {2, 1, 1, api.OK}, {77, 60, 29000000, api.OK},
		{greatest, 1, 0, api.OK}, {greatest - 1, 1, 0, api.OK}, {1, greatest, 0, api.OK}, {1, greatest - 1, 0, api.OK}, {greatest, greatest, latest, api.OK}, {1, 1, latest, api.OK}, {1, 1, latest - 1, api.OK},
		{0, 1, 0, api.ErrArg}, {-1, 1, 0, api.ErrArg}, {greatest + 1, 1, 0, api.ErrArg}, {-greatest, 1, 0, api.ErrArg}, {4294967297, 1, 0, api.ErrArg}, {math.MinInt, 1, 0, api.ErrArg}, {math.MaxInt, 1, 0, api.ErrArg},
		{1, 0, 0, api.ErrArg}, {1, -1, 0, api.ErrArg}, {1, greatest + 1, 0, api.ErrArg}, {1, -greatest, 0, api.ErrArg}, {1, 4294967297, 0, api.ErrArg}, {1, math.MinInt, 0, api.ErrArg}, {1, math.MaxInt, 0, api.ErrArg}, {1, math.MaxInt, latest, api.ErrArg},
		{0, 0, 0, api.ErrArg}, {-1, -1, latest, api.ErrArg}, {greatest + 1, greatest + 1, 5, api.ErrArg},
	} {
		b, m := of(t, one(50, 3, 8))
		is(t, fmt.Sprintf("Grant(%d, %d, %d)", c.id, c.ttl, c.now), b.Grant(c.id, c.ttl, c.now), c.want)
		if c.want == api.OK {
			m = append(m, one(c.id, c.ttl, c.now+c.ttl))
		}
		isAs(t, b, m)
	}
}

// TestP9GrantRefusesANow: one that is out of its bounds is an argument that may not be, as an id or a TTL is.
func TestP9GrantRefusesANow(t *testing.T) {
	for _, now := range []int{-1, -latest, math.MinInt, latest + 1, math.MaxInt - greatest, math.MaxInt} {
		b, m := of(t, one(50, 3, 8))
		is(t, fmt.Sprintf("Grant(1, 5, %d)", now), b.Grant(1, 5, now), api.ErrArg)
		is(t, fmt.Sprintf("Grant(50, 5, %d)", now), b.Grant(50, 5, now), api.ErrArg)
		isAs(t, b, m)
	}
}

// TestP1001GrantOfOneThatIs: also if its time is over.
func TestP1001GrantOfOneThatIs(t *testing.T) {
	for _, now := range []int{0, 14, 15, 16, latest} {
		for _, ttl := range []int{1, 5, 6, greatest} {
			b, m := of(t, one(3, 5, 15), one(greatest, 1, 1))
			is(t, fmt.Sprintf("Grant(3, %d, %d)", ttl, now), b.Grant(3, ttl, now), api.ErrIs)
			is(t, fmt.Sprintf("Grant(%d, %d, %d)", greatest, ttl, now), b.Grant(greatest, ttl, now), api.ErrIs)
			isAs(t, b, m)
		}
	}
}

// TestP1001GrantOfOneThatWent: nothing of what it was is left.
func TestP1001GrantOfOneThatWent(t *testing.T) {
	b, m := of(t, one(3, 5, 15), one(4, 6, 16))
	is(t, "Renew(3)", b.Renew(3, 100), api.OK)
	is(t, "Revoke(3)", b.Revoke(3), api.OK)
	m.revoke(3)
	isAs(t, b, m)
	is(t, "Grant(3)", b.Grant(3, 2, 7), api.OK)
	isAs(t, b, model{one(3, 2, 9), one(4, 6, 16)})
	is(t, "Renew(3)", b.Renew(3, 20), api.OK)
	isAs(t, b, model{one(3, 2, 22), one(4, 6, 16)})
}

func TestP1001GrantOfOneTooMany(t *testing.T) {
	b, m := lease.New(), model{}
	for id := 1; id <= 1024; id++ {
		is(t, fmt.Sprintf("the Grant(%d)", id), b.Grant(id, 1, id), api.OK)
		m.grant(id, 1, id)
	}
	isAs(t, b, m)
	for _, id := range []int{1025, 1026, 5000, greatest} {
		is(t, fmt.Sprintf("Grant(%d) of a full book", id), b.Grant(id, 1, 2000), api.ErrMany)
	}
	isAs(t, b, m)
}

// TestP1001GrantIsFullByThoseThatAreThere: leases whose time is over count; those that went do not.
func TestP1001GrantIsFullByThoseThatAreThere(t *testing.T) {
	b, m := full(t, rand.New(rand.NewSource(1001)))
	if n := len(b.Over(latest)); n != 1024 {
		t.Fatalf("Over: %d", n)
	}
	is(t, "Grant(2000) though all are over", b.Grant(2000, 1, latest), api.ErrMany)
	for id := 1; id <= 300; id++ {
		is(t, fmt.Sprintf("Revoke(%d)", id), b.Revoke(id), api.OK)
		m.revoke(id)
	}
	for id := 2001; id <= 2300; id++ {
		is(t, fmt.Sprintf("Grant(%d)", id), b.Grant(id, 7, 3), api.OK)
		m.grant(id, 7, 3)
	}
	is(t, "Grant(1) of a full book", b.Grant(1, 7, 3), api.ErrMany)
	isAs(t, b, m)
}

// TestP1001WhichErrorIsFirst: ErrArg, ErrIs, ErrMany, in a book that is full.
func TestP1001WhichErrorIsFirst(t *testing.T) {
	b, m := full(t, rand.New(rand.NewSource(1002)))
	for _, c := range []struct {
		id, ttl, now int
		want         api.Errno
	}{
		{0, 1, 0, api.ErrArg}, {-1, 0, 0, api.ErrArg}, {greatest + 1, 1, 0, api.ErrArg}, {math.MaxInt, 1, 0, api.ErrArg}, {2000, 0, 0, api.ErrArg}, {2000, greatest + 1, 0, api.ErrArg},
		{1, 0, 0, api.ErrArg}, {1024, -1, 0, api.ErrArg}, {512, greatest + 1, latest, api.ErrArg}, {512, math.MinInt, 0, api.ErrArg},
		{1, 1, 0, api.ErrIs}, {1024, greatest, latest, api.ErrIs}, {512, 5, 5, api.ErrIs},
		{1025, 1, 0, api.ErrMany}, {greatest, greatest, latest, api.ErrMany},
	} {
		is(t, fmt.Sprintf("Grant(%d, %d, %d)", c.id, c.ttl, c.now), b.Grant(c.id, c.ttl, c.now), c.want)
	}
	isAs(t, b, m)
}
