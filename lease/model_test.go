package lease_test

import (
	"math"
	"math/rand"
	"slices"
	"testing"

	"horologe/api"
	"horologe/lease"
)

// Numbers at the edges: the greatest id and TTL, the latest now.
const (
	greatest = 2147483647
	latest   = 1099511627776
)

// edges are numbers of all kinds that an id, a TTL or a now may and may not be.
var edges = []int{math.MinInt, math.MinInt + 1, -latest, -greatest - 1, -greatest, -5, -1, 0, 1, 2, 3, 5, 10, 1023, 1024, 1025, greatest - 1, greatest, greatest + 1, greatest + 2, 4294967296, 4294967297, latest - 1, latest, latest + 1, math.MaxInt - greatest, math.MaxInt - 1, math.MaxInt}

// model is a book as plain as can be: its leases, in the order in which they were granted.
type model []lease.Lease

func (m model) at(id int) int {
	return slices.IndexFunc(m, func(l lease.Lease) bool { return l.Id == id })
}

func (m *model) grant(id, ttl, now int) api.Errno {
	if id <= 0 || id > greatest || ttl <= 0 || ttl > greatest || now < 0 || now > latest {
		return api.ErrArg
	}
	if m.at(id) >= 0 {
		return api.ErrIs
	}
	if len(*m) == 1024 {
		return api.ErrMany
	}
	*m = append(*m, lease.Lease{Id: id, TTL: ttl, Until: now + ttl})
	return api.OK
}

func (m *model) renew(id, now int) api.Errno {
	if now < 0 || now > latest {
		return api.ErrArg
	}
	i := m.at(id)
	if i < 0 {
		return api.ErrNone
	}
	(*m)[i].Until = now + (*m)[i].TTL
	return api.OK
}

func (m *model) revoke(id int) api.Errno {
	i := m.at(id)
	if i < 0 {
		return api.ErrNone
	}
	*m = slices.Delete(*m, i, i+1)
	return api.OK
}

func (m model) over(now int) []int {
	var ids []int
	for _, l := range m.all() {
		if l.Until <= now {
			ids = append(ids, l.Id)
		}
	}
	return ids
}

func (m model) all() []lease.Lease {
	l := slices.Clone(m)
	slices.SortFunc(l, func(a, b lease.Lease) int { return a.Id - b.Id })
	return l
}

// isAs holds all that a book tells against the model: its leases, who is there, and who is over, just ahead of, at and behind the end of some of them.
func isAs(t *testing.T, b *lease.Book, m model) {
	t.Helper()
	all := m.all()
	if got := b.All(); !slices.Equal(got, all) {
		t.Fatalf("All: %v, not %v", got, all)
	}
	nows := []int{0, 1, latest}
	for i, l := range all {
		if !b.Has(l.Id) {
			t.Fatalf("Has(%d): false", l.Id)
		}
		if i%(1+len(all)/5) == 0 {
			nows = append(nows, l.Until-1, l.Until, l.Until+1)
		}
	}
	for _, id := range edges {
		if got, want := b.Has(id), m.at(id) >= 0; got != want {
			t.Fatalf("Has(%d): %v", id, got)
		}
	}
	for _, now := range nows {
		if got, want := b.Over(now), m.over(now); now <= latest && !slices.Equal(got, want) {
			t.Fatalf("Over(%d): %v, not %v", now, got, want)
		}
	}
}

// of makes a book of leases that are all taken, granted in the order in which they are told, and its model.
func of(t *testing.T, l ...lease.Lease) (*lease.Book, model) {
	t.Helper()
	b := lease.New()
	for _, x := range l {
		if err := b.Grant(x.Id, x.TTL, x.Until-x.TTL); err != api.OK {
			t.Fatalf("Grant(%d, %d, %d): %v", x.Id, x.TTL, x.Until-x.TTL, err)
		}
	}
	return b, slices.Clone(l)
}

// full makes a book of as many leases as may be, with the ids 1 to 1024 in a drawn order, and its model.
func full(t *testing.T, r *rand.Rand) (*lease.Book, model) {
	t.Helper()
	var l []lease.Lease
	for _, i := range r.Perm(1024) {
		ttl := 1 + r.Intn(50)
		l = append(l, one(i+1, ttl, r.Intn(100)+ttl))
	}
	return of(t, l...)
}

// one makes a lease, to write tables by.
func one(id, ttl, until int) lease.Lease { return lease.Lease{Id: id, TTL: ttl, Until: until} }

// is holds an error against the one that was to come.
func is(t *testing.T, what string, got, want api.Errno) {
	t.Helper()
	if got != want {
		t.Errorf("%s: %v, not %v", what, got, want)
	}
}
