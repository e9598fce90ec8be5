package lease_test

import (
	"fmt"
	"math/rand"
	"slices"
	"testing"

	"horologe/api"
	"horologe/lease"
)

// drawn does one drawn call, on a book and on its model, and holds the answers against each other.
func drawn(t *testing.T, r *rand.Rand, b *lease.Book, m *model, ids int, now int) {
	t.Helper()
	id, ttl := r.Intn(ids+2), r.Intn(20)
	if r.Intn(20) == 0 {
		id = edges[r.Intn(len(edges))]
	}
	if r.Intn(20) == 0 {
		ttl = edges[r.Intn(len(edges))]
	}
	if r.Intn(20) == 0 {
		now = edges[r.Intn(len(edges))]
	}
	switch r.Intn(5) {
	case 0, 1:
		is(t, fmt.Sprintf("Grant(%d, %d, %d)", id, ttl, now), b.Grant(id, ttl, now), m.grant(id, ttl, now))
	case 2, 3:
		is(t, fmt.Sprintf("Renew(%d, %d)", id, now), b.Renew(id, now), m.renew(id, now))
	default:
		is(t, fmt.Sprintf("Revoke(%d)", id), b.Revoke(id), m.revoke(id))
	}
}

// TestP1002DrawnCalls holds all that is told behind each of many drawn calls against the model; now goes on, and at times back.
func TestP1002DrawnCalls(t *testing.T) {
	for seed := range int64(60) {
		r := rand.New(rand.NewSource(100200 + seed))
		b, m := lease.New(), model{}
		ids := []int{3, 12, 60}[seed%3]
		now := []int{0, 1000, latest - 400}[r.Intn(3)]
		for range 500 {
			now = min(max(now+r.Intn(6)-1, 0), latest)
			drawn(t, r, b, &m, ids, now)
			isAs(t, b, m)
			if got, want := b.Over(now), m.over(now); !slices.Equal(got, want) {
				t.Fatalf("seed %d: Over(%d): %v, not %v", seed, now, got, want)
			}
			if t.Failed() {
				t.Fatalf("seed %d", seed)
			}
		}
	}
}

// TestP1002DrawnCallsOfManyLeases does so in a book that is nearly full, or full.
func TestP1002DrawnCallsOfManyLeases(t *testing.T) {
	for seed := range int64(3) {
		r := rand.New(rand.NewSource(100270 + seed))
		b, m := full(t, r)
		refused := 0
		for range 100 {
			id := 1025 + r.Intn(40)
			err := b.Grant(id, 5, 50)
			is(t, fmt.Sprintf("Grant(%d)", id), err, m.grant(id, 5, 50))
			if err == api.ErrMany {
				refused++
			}
			drawn(t, r, b, &m, 1040, 50)
			isAs(t, b, m)
		}
		if refused == 0 || refused > 95 {
			t.Errorf("seed %d: %d times too many", seed, refused)
		}
	}
}

// TestP1002RenewedAheadOfItsTime: at no minute is a lease over that was always renewed ahead of its end; one whose renewals ceased is from its end on.
func TestP1002RenewedAheadOfItsTime(t *testing.T) {
	for seed := range int64(40) {
		r := rand.New(rand.NewSource(100240 + seed))
		b := lease.New()
		until, ttls := map[int]int{}, map[int]int{}
		start := []int{0, 77, latest - 300}[seed%3]
		for id := 1; id <= 20; id++ {
			ttls[id] = 2 + r.Intn(12) // one of 1 ends in the next minute, whenever it is renewed
			until[id] = start + ttls[id]
			is(t, "Grant", b.Grant(id, ttls[id], start), api.OK)
		}
		for now := start; now <= start+300; now++ {
			for id := 1; id <= 20; id++ {
				kept := id <= 15 || now < start+150
				if kept && (until[id] == now+1 || r.Intn(6) == 0) {
					is(t, "Renew", b.Renew(id, now), api.OK)
					until[id] = now + ttls[id]
				}
			}
			for _, id := range b.Over(now) {
				if id <= 15 || now < start+150 {
					t.Fatalf("seed %d: at %d lease %d is over, though it was renewed till %d", seed, now, id, until[id])
				}
			}
		}
		if got := b.Over(start + 300); !slices.Equal(got, []int{16, 17, 18, 19, 20}) {
			t.Errorf("seed %d: Over: %v", seed, got)
		}
	}
}

// TestP1002EachMinuteOfRenewing goes through all small TTLs, and all minutes ahead of a lease's end at which it is renewed.
func TestP1002EachMinuteOfRenewing(t *testing.T) {
	for ttl := 1; ttl <= 8; ttl++ {
		for wait := range ttl {
			b, _ := of(t, one(1, ttl, 10+ttl))
			is(t, "Renew", b.Renew(1, 10+wait), api.OK)
			for now := range 40 {
				if got, want := len(b.Over(now)) == 1, now >= 10+wait+ttl; got != want {
					t.Errorf("TTL %d, renewed behind %d minutes: over at %d: %v", ttl, wait, now, got)
				}
			}
		}
	}
}

// TestP1WhateverIsHandedIn asks by numbers of all kinds; where no error can be answered, that a call ends is all that is asked.
func TestP1WhateverIsHandedIn(t *testing.T) {
	b, m := of(t, one(1, greatest, latest+greatest), one(5, 1, 1))
	for _, id := range edges {
		for _, n := range edges {
			for _, now := range edges {
				is(t, fmt.Sprintf("Grant(%d, %d, %d)", id, n, now), b.Grant(id, n, now), m.grant(id, n, now))
			}
			is(t, fmt.Sprintf("Renew(%d, %d)", id, n), b.Renew(id, n), m.renew(id, n))
			b.Over(n)
		}
		isAs(t, b, m)
		if id%2 == 0 {
			is(t, fmt.Sprintf("Revoke(%d)", id), b.Revoke(id), m.revoke(id))
		}
		isAs(t, b, m)
	}
}

// TestP1ABookThatIsNotOfNew is as an empty one.
func TestP1ABookThatIsNotOfNew(t *testing.T) {
	b := &lease.Book{}
	isAs(t, b, nil)
	is(t, "Renew", b.Renew(1, 5), api.ErrNone)
	is(t, "Revoke", b.Revoke(1), api.ErrNone)
	is(t, "Grant", b.Grant(1, 5, 5), api.OK)
	isAs(t, b, model{one(1, 5, 10)})
}

// spoil overwrites a list, its spare room too.
func spoil[T any](l []T, by T) {
	for i := range l[:cap(l)] {
		l[:cap(l)][i] = by
	}
}

func TestP2AnswersAreTheCallersOwn(t *testing.T) {
	b, m := of(t, one(4, 6, 16), one(2, 1, 2), one(9, 3, 12))
	for range 3 {
		spoil(b.All(), one(99, 99, 99))
		spoil(b.Over(latest), 99)
		isAs(t, b, m)
		all, over := b.All(), b.Over(latest)
		spoil(b.All(), one(99, 99, 99))
		spoil(b.Over(latest), 99)
		wasAll, wasOver := slices.Clone(all), slices.Clone(over)
		b.Renew(4, 100)
		m.renew(4, 100)
		b.Revoke(2)
		m.revoke(2)
		b.Grant(1, 1, 1)
		m.grant(1, 1, 1)
		if !slices.Equal(all, wasAll) || !slices.Equal(over, wasOver) {
			t.Fatalf("what was answered changed: %v, %v", all, over)
		}
		isAs(t, b, m)
		b.Revoke(1)
		m.revoke(1)
		b.Grant(2, 1, 1)
		m.grant(2, 1, 1)
	}
}

// TestP3TheSameCalls answer the same in two books.
func TestP3TheSameCalls(t *testing.T) {
	one, two := lease.New(), lease.New()
	r := rand.New(rand.NewSource(3))
	for range 2000 {
		id, ttl, now, kind := r.Intn(30), r.Intn(9), r.Intn(50), r.Intn(3)
		var errs [2]api.Errno
		for i, b := range []*lease.Book{one, two} {
			errs[i] = []func() api.Errno{func() api.Errno { return b.Grant(id, ttl, now) }, func() api.Errno { return b.Renew(id, now) }, func() api.Errno { return b.Revoke(id) }}[kind]()
		}
		if errs[0] != errs[1] || !slices.Equal(one.All(), two.All()) || !slices.Equal(one.Over(now), two.Over(now)) || one.Has(id) != two.Has(id) {
			t.Fatalf("two books that were called alike differ: %v, %v", one.All(), two.All())
		}
	}
}

func TestP7BooksAreOfTheirOwn(t *testing.T) {
	b, m := full(t, rand.New(rand.NewSource(7)))
	other := lease.New()
	isAs(t, other, nil)
	is(t, "Grant(1) in another book", other.Grant(1, 3, 4), api.OK)
	is(t, "Grant(5000) in another book", other.Grant(5000, 3, 4), api.OK)
	is(t, "Renew(1) in another book", other.Renew(1, 9), api.OK)
	is(t, "Revoke(2) in another book", other.Revoke(2), api.ErrNone)
	isAs(t, b, m)
	is(t, "Revoke(1)", b.Revoke(1), api.OK)
	is(t, "Renew(5000)", b.Renew(5000, 9), api.ErrNone)
	isAs(t, other, model{one(1, 3, 12), one(5000, 3, 7)})
}
