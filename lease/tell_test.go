package lease_test

import (
	"math/rand"
	"slices"
	"testing"

	"horologe/api"
	"horologe/lease"
)

// TestP1001TheExample is the chapter's.
func TestP1001TheExample(t *testing.T) {
	b := lease.New()
	is(t, "Grant(1, 5, 10)", b.Grant(1, 5, 10), api.OK)
	if got := b.Over(14); len(got) != 0 {
		t.Errorf("Over(14): %v", got)
	}
	if got := b.Over(15); !slices.Equal(got, []int{1}) {
		t.Errorf("Over(15): %v", got)
	}
}

func TestP1001OverAndAllOfNone(t *testing.T) {
	b := lease.New()
	for range 2 {
		for _, now := range []int{0, 1, latest} {
			if got := b.Over(now); len(got) != 0 {
				t.Errorf("Over(%d): %v", now, got)
			}
		}
		if got := b.All(); len(got) != 0 {
			t.Errorf("All: %v", got)
		}
		b.Grant(1, 5, 10)
		b.Revoke(1)
	}
}

func TestP1001Over(t *testing.T) {
	b, _ := of(t, one(9, 5, 15), one(2, 14, 14), one(5, 1, 15), one(7, 16, 16), one(greatest, greatest, latest+greatest), one(3, 1, 1), one(1, 1, latest), one(4, 2, latest+1))
	for _, c := range []struct {
		now  int
		want []int
	}{
		{0, nil}, {1, []int{3}}, {2, []int{3}}, {13, []int{3}}, {14, []int{2, 3}}, {15, []int{2, 3, 5, 9}}, {16, []int{2, 3, 5, 7, 9}}, {17, []int{2, 3, 5, 7, 9}}, {latest - 1, []int{2, 3, 5, 7, 9}}, {latest, []int{1, 2, 3, 5, 7, 9}}, {5, []int{3}},
	} {
		if got := b.Over(c.now); !slices.Equal(got, c.want) {
			t.Errorf("Over(%d): %v, not %v", c.now, got, c.want)
		}
	}
}

// TestP1001OverBehindRenewAndRevoke: who is renewed is over at the new end, sooner or later than the old one; who went never is.
func TestP1001OverBehindRenewAndRevoke(t *testing.T) {
	b, _ := of(t, one(1, 5, 15), one(2, 5, 15), one(3, 5, 15), one(4, 5, 15))
	b.Renew(1, 30)
	b.Renew(2, 2)
	b.Revoke(3)
	for _, c := range []struct {
		now  int
		want []int
	}{
		{6, nil}, {7, []int{2}}, {14, []int{2}}, {15, []int{2, 4}}, {34, []int{2, 4}}, {35, []int{1, 2, 4}}, {latest, []int{1, 2, 4}},
	} {
		if got := b.Over(c.now); !slices.Equal(got, c.want) {
			t.Errorf("Over(%d): %v, not %v", c.now, got, c.want)
		}
	}
}

// TestP1001AnyOrderOfGranting: all orders of a few leases, and drawn ones of many, are told alike.
func TestP1001AnyOrderOfGranting(t *testing.T) {
	some := []lease.Lease{one(1, 3, 20), one(2, 9, 9), one(10, 1, 10), one(255, 4, 9), one(greatest, 9, 20)}
	orders := [][]lease.Lease{{}}
	for range some {
		var longer [][]lease.Lease
		for _, l := range orders {
			for _, x := range some {
				if !slices.Contains(l, x) {
					longer = append(longer, append(slices.Clone(l), x))
				}
			}
		}
		orders = longer
	}
	if len(orders) != 120 {
		t.Fatalf("%d orders", len(orders))
	}
	for _, l := range orders {
		b, _ := of(t, l...)
		if got := b.All(); !slices.Equal(got, some) {
			t.Errorf("%v: All: %v", l, got)
		}
		if got := b.Over(9); !slices.Equal(got, []int{2, 255}) {
			t.Errorf("%v: Over(9): %v", l, got)
		}
		if got := b.Over(20); !slices.Equal(got, []int{1, 2, 10, 255, greatest}) {
			t.Errorf("%v: Over(20): %v", l, got)
		}
	}
	for seed := range int64(10) {
		b, m := full(t, rand.New(rand.NewSource(seed)))
		isAs(t, b, m)
		for now := range 151 {
			if got, want := b.Over(now), m.over(now); !slices.Equal(got, want) {
				t.Fatalf("Over(%d): %v, not %v", now, got, want)
			}
		}
	}
}

func TestP1001All(t *testing.T) {
	b := lease.New()
	tells := func(want ...lease.Lease) {
		t.Helper()
		if got := b.All(); !slices.Equal(got, want) {
			t.Errorf("All: %v, not %v", got, want)
		}
	}
	tells()
	b.Grant(7, 5, 10)
	tells(one(7, 5, 15))
	b.Grant(3, 2, 0)
	tells(one(3, 2, 2), one(7, 5, 15))
	b.Grant(greatest, greatest, latest)
	tells(one(3, 2, 2), one(7, 5, 15), one(greatest, greatest, latest+greatest))
	b.Renew(7, 12)
	tells(one(3, 2, 2), one(7, 5, 17), one(greatest, greatest, latest+greatest))
	b.Renew(3, 12) // its time was over
	tells(one(3, 2, 14), one(7, 5, 17), one(greatest, greatest, latest+greatest))
	b.Renew(greatest, 0)
	tells(one(3, 2, 14), one(7, 5, 17), one(greatest, greatest, greatest))
	b.Over(latest) // it tells, and takes nothing away
	tells(one(3, 2, 14), one(7, 5, 17), one(greatest, greatest, greatest))
	b.Revoke(7)
	tells(one(3, 2, 14), one(greatest, greatest, greatest))
}
