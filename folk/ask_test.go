package folk_test

import (
	"math"
	"math/rand"
	"testing"

	"horologe/api"
	"horologe/folk"
)

// TestP1101TheExample is the chapter's.
func TestP1101TheExample(t *testing.T) {
	f, r := folk.New(), reply("r")
	f.Note(3, 5, r)
	asks(t, f, 3, 5, told(r), false)
	asks(t, f, 3, 4, refused(api.ErrStale), false)
	asks(t, f, 3, 9, zero, true)
}

// TestP1101AskOfNobody: a call of client 0 is always to be done, whatever its number, also where no client has room any more.
func TestP1101AskOfNobody(t *testing.T) {
	some, _ := of(t, [2]int{3, 5}, [2]int{1, 1})
	many, _ := full(t, rand.New(rand.NewSource(1)))
	for _, f := range []*folk.Table{folk.New(), some, many} {
		for _, seq := range edges {
			asks(t, f, 0, seq, zero, true)
			f.Note(0, seq, reply("of nobody"))
			asks(t, f, 0, seq, zero, true)
		}
	}
}

// TestP1101AskRefusesNumbers: a client below 0, with any number; any other client but 0 with a number below 1, whether it has a call or not.
func TestP1101AskRefusesNumbers(t *testing.T) {
	some, _ := of(t, [2]int{3, 5}, [2]int{1, 1}, [2]int{math.MaxInt, math.MaxInt})
	many, _ := full(t, rand.New(rand.NewSource(2)))
	for _, f := range []*folk.Table{folk.New(), some, many} {
		for _, client := range append([]int{1001, 1064}, edges...) {
			for _, seq := range edges {
				if client < 0 || client > 0 && seq < 1 {
					asks(t, f, client, seq, refused(api.ErrArg), false)
				}
			}
		}
	}
}

func TestP1101AskOfAClientWithoutACall(t *testing.T) {
	some, _ := of(t, [2]int{4, 5}, [2]int{1000, math.MaxInt})
	for _, f := range []*folk.Table{folk.New(), some} {
		for _, client := range edges {
			for _, seq := range edges {
				if client >= 1 && seq >= 1 {
					asks(t, f, client, seq, zero, true)
				}
			}
		}
	}
}

// TestP1101AskByTheLastNumber: below, at and above it, also at the ends of what it may be.
func TestP1101AskByTheLastNumber(t *testing.T) {
	for _, client := range []int{1, 3, 64, 65, 1 << 32, math.MaxInt} {
		for _, last := range edges {
			if last < 1 {
				continue
			}
			f, r := folk.New(), reply("last")
			f.Note(77, 1000, reply("another's"))
			f.Note(client, last, r)
			for _, seq := range append([]int{last - 1}, edges...) {
				switch {
				case seq < 1:
					asks(t, f, client, seq, refused(api.ErrArg), false)
				case seq < last:
					asks(t, f, client, seq, refused(api.ErrStale), false)
				case seq == last:
					asks(t, f, client, seq, told(r), false)
				default:
					asks(t, f, client, seq, zero, true)
				}
			}
		}
	}
}

// TestP1101ClientsCountEachForThemselves: what one has called says nothing of another one.
func TestP1101ClientsCountEachForThemselves(t *testing.T) {
	f, _ := of(t, [2]int{3, 5}, [2]int{4, 2}, [2]int{5, 9})
	asks(t, f, 4, 1, refused(api.ErrStale), false)
	asks(t, f, 4, 3, zero, true)
	asks(t, f, 4, 5, zero, true)
	asks(t, f, 5, 5, refused(api.ErrStale), false)
	asks(t, f, 3, 9, zero, true)
	asks(t, f, 6, 2, zero, true)
}

// TestP1101The64thClient has room, one more has none; those that have a call go on, and are told of it.
func TestP1101The64thClient(t *testing.T) {
	f, m := folk.New(), model{}
	for i := range 64 {
		client := 5000 - 7*i
		asks(t, f, client, 1+i, zero, true)
		asks(t, f, 9999, 1, zero, true)
		f.Note(client, 1+i, reply("first"))
		m.note(client, 1+i, reply("first"))
	}
	for _, client := range []int{1, 2, 4999, 5001, 9999, math.MaxInt} {
		for _, seq := range []int{1, 2, 64, math.MaxInt} {
			asks(t, f, client, seq, refused(api.ErrMany), false)
		}
	}
	isAs(t, f, m)
	for i := range 64 {
		client := 5000 - 7*i
		asks(t, f, client, 1+i, told(reply("first")), false)
		asks(t, f, client, 2+i, zero, true)
		f.Note(client, 2+i, reply("second"))
		m.note(client, 2+i, reply("second"))
		asks(t, f, client, 1+i, refused(api.ErrStale), false)
		asks(t, f, 9999, 1, refused(api.ErrMany), false)
	}
	isAs(t, f, m)
}

// TestP1101WhichErrorIsFirst: ErrArg, ErrMany, ErrStale, in a table that is full.
func TestP1101WhichErrorIsFirst(t *testing.T) {
	f, m := full(t, rand.New(rand.NewSource(3)))
	for _, c := range []struct {
		client, seq int
		want        api.Errno
	}{
		{-1, 0, api.ErrArg}, {-1, 1, api.ErrArg}, {math.MinInt, math.MaxInt, api.ErrArg}, {math.MinInt, math.MinInt, api.ErrArg}, {-1001, 10, api.ErrArg},
		{1, 0, api.ErrArg}, {1, -1, api.ErrArg}, {1065, 0, api.ErrArg}, {math.MaxInt, math.MinInt, api.ErrArg},
		{1001, 0, api.ErrArg}, {1064, -10, api.ErrArg}, {1064, math.MinInt, api.ErrArg},
		{1, 1, api.ErrMany}, {1000, 10, api.ErrMany}, {1065, 9, api.ErrMany}, {math.MaxInt, math.MaxInt, api.ErrMany},
		{1001, 1, api.ErrStale}, {1030, 5, api.ErrStale}, {1064, 9, api.ErrStale},
	} {
		asks(t, f, c.client, c.seq, refused(c.want), false)
	}
	isAs(t, f, m)
}

// TestP1101AskChangesNothing: it takes no room, and makes no number stale.
func TestP1101AskChangesNothing(t *testing.T) {
	f, m := of(t, [2]int{3, 5}, [2]int{1, 1}, [2]int{64, math.MaxInt})
	for range 2 {
		for client := 1; client <= 200; client++ {
			f.Ask(client, 1000)
		}
		for _, client := range edges {
			for _, seq := range edges {
				f.Ask(client, seq)
			}
		}
		isAs(t, f, m)
		asks(t, f, 3, 6, zero, true)
		asks(t, f, 200, 1, zero, true)
	}
	tells(t, folk.New())
}
