package lease_test

import (
	"fmt"
	"math"
	"math/rand"
	"testing"

	"horologe/api"
	"horologe/lease"
)

// TestP1001Renew: ahead of, at and behind the end of a lease, and with a now that is earlier than that of its granting.
func TestP1001Renew(t *testing.T) {
	for _, now := range []int{0, 1, 9, 10, 11, 14, 15, 16, 1000, latest - 1, latest} {
		b, m := of(t, one(3, 5, 15), one(4, 6, 16))
		is(t, fmt.Sprintf("Renew(3, %d)", now), b.Renew(3, now), api.OK)
		m[0].Until = now + 5
		isAs(t, b, m)
	}
}

// TestP1001RenewAgain: each one counts from its own now, whatever the one ahead of it was.
func TestP1001RenewAgain(t *testing.T) {
	b, m := of(t, one(3, greatest, greatest), one(4, 1, 9))
	for _, now := range []int{100, 100, 7, latest, 0, 50} {
		is(t, fmt.Sprintf("Renew(3, %d)", now), b.Renew(3, now), api.OK)
		is(t, fmt.Sprintf("Renew(4, %d)", now), b.Renew(4, now), api.OK)
		m[0].Until, m[1].Until = now+greatest, now+1
		isAs(t, b, m)
	}
}

func TestP1001RenewOfNone(t *testing.T) {
	for _, id := range append([]int{7}, edges...) {
		is(t, fmt.Sprintf("Renew(%d) of no leases", id), lease.New().Renew(id, 5), api.ErrNone)
		b, m := of(t, one(4, 6, 16), one(7, 1, 2))
		is(t, "Revoke(7)", b.Revoke(7), api.OK)
		is(t, fmt.Sprintf("Renew(%d)", id), b.Renew(id, 5), api.ErrNone)
		isAs(t, b, m[:1])
	}
}

// TestP9RenewRefusesANow: ahead of asking for the lease, as the bounds of now stand ahead of it.
func TestP9RenewRefusesANow(t *testing.T) {
	for _, now := range []int{-1, -latest, math.MinInt, latest + 1, math.MaxInt - greatest, math.MaxInt} {
		b, m := of(t, one(4, 6, 16))
		is(t, fmt.Sprintf("Renew(4, %d)", now), b.Renew(4, now), api.ErrArg)
		is(t, fmt.Sprintf("Renew(5, %d)", now), b.Renew(5, now), api.ErrArg)
		isAs(t, b, m)
	}
}

func TestP1001Revoke(t *testing.T) {
	b, m := of(t, one(9, 1, 1), one(4, 6, 16), one(greatest, 2, 3), one(1, 8, 9))
	for _, id := range []int{4, 9, 1, greatest} {
		is(t, fmt.Sprintf("Revoke(%d)", id), b.Revoke(id), api.OK)
		m.revoke(id)
		isAs(t, b, m)
		is(t, fmt.Sprintf("Revoke(%d), twice", id), b.Revoke(id), api.ErrNone)
		isAs(t, b, m)
	}
}

func TestP1001RevokeOfNone(t *testing.T) {
	for _, id := range edges {
		is(t, fmt.Sprintf("Revoke(%d) of no leases", id), lease.New().Revoke(id), api.ErrNone)
		b, m := of(t, one(4, 6, 16), one(7, 1, 2))
		is(t, fmt.Sprintf("Revoke(%d)", id), b.Revoke(id), api.ErrNone)
		isAs(t, b, m)
	}
}

// TestP1001RevokeMakesRoom: for one more, not for two; what was refused has taken none.
func TestP1001RevokeMakesRoom(t *testing.T) {
	b, m := full(t, rand.New(rand.NewSource(1003)))
	for round := range 5 {
		gone, more := 1+round*200, 5000+round
		is(t, "Grant of a full book", b.Grant(more, 3, 4), api.ErrMany)
		is(t, "Revoke of one that is not there", b.Revoke(more), api.ErrNone)
		is(t, "Grant, behind a Revoke that was refused", b.Grant(more, 3, 4), api.ErrMany)
		is(t, "Revoke", b.Revoke(gone), api.OK)
		is(t, "Grant that is refused", b.Grant(more, 0, 4), api.ErrArg)
		is(t, "Grant, behind a Revoke", b.Grant(more, 3, 4), api.OK)
		is(t, "Grant of the one that went", b.Grant(gone, 3, 4), api.ErrMany)
		m.revoke(gone)
		m.grant(more, 3, 4)
		isAs(t, b, m)
	}
}

func TestP1001Has(t *testing.T) {
	b := lease.New()
	has := func(id int, want bool) {
		t.Helper()
		if got := b.Has(id); got != want {
			t.Errorf("Has(%d): %v", id, got)
		}
	}
	for _, id := range edges {
		has(id, false)
	}
	b.Grant(1, 5, 10)
	b.Grant(greatest, 1, 0)
	for _, id := range edges {
		has(id, id == 1 || id == greatest)
	}
	b.Grant(2, 0, 10) // refused
	has(2, false)
	b.Renew(2, 10)
	has(2, false)
	b.Grant(1, 7, 10) // refused
	has(1, true)
	b.Over(1000) // telling that it is over does not end it
	has(1, true)
	b.Renew(1, 0)
	has(1, true)
	b.Revoke(1)
	has(1, false)
	has(greatest, true)
	b.Renew(1, 0)
	has(1, false)
	b.Grant(1, 1, 0)
	has(1, true)
}
