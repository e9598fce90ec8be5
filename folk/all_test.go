package folk_test

import (
	"fmt"
	"math"
	"math/rand"
	"slices"
	"testing"

	"horologe/api"
	"horologe/folk"
)

func TestP1101AllOfNone(t *testing.T) {
	f := folk.New()
	tells(t, f)
	f.Ask(1, 1)
	f.Note(0, 1, reply("of nobody"))
	tells(t, f)
}

func TestP1101All(t *testing.T) {
	f := folk.New()
	a, b, c, d := reply("a"), reply("b"), api.Reply{}, api.Reply{Err: api.ErrFull, Rev: 3}
	f.Note(7, 5, a)
	tells(t, f, row{7, 5, told(a)})
	f.Note(3, 2, b)
	tells(t, f, row{3, 2, told(b)}, row{7, 5, told(a)})
	f.Note(math.MaxInt, math.MaxInt, c)
	tells(t, f, row{3, 2, told(b)}, row{7, 5, told(a)}, row{math.MaxInt, math.MaxInt, zero})
	f.Note(7, 6, d)
	tells(t, f, row{3, 2, told(b)}, row{7, 6, told(d)}, row{math.MaxInt, math.MaxInt, zero})
	f.Note(1, 9, a)
	tells(t, f, row{1, 9, told(a)}, row{3, 2, told(b)}, row{7, 6, told(d)}, row{math.MaxInt, math.MaxInt, zero})
	f.Note(3, 100, c)
	tells(t, f, row{1, 9, told(a)}, row{3, 100, zero}, row{7, 6, told(d)}, row{math.MaxInt, math.MaxInt, zero})
}

// TestP1101AllInAnyOrderOfNoting: all orders of a few clients, and drawn ones of many, are told alike.
func TestP1101AllInAnyOrderOfNoting(t *testing.T) {
	some := [][2]int{{1, 9}, {2, 1}, {10, 5}, {255, 2}, {math.MaxInt, 1}}
	var want []row
	for _, c := range some {
		want = append(want, row{c[0], c[1], told(reply(fmt.Sprint("of ", c)))})
	}
	for order := range 120 {
		var calls [][2]int
		for rest := slices.Clone(some); len(rest) > 0; {
			i := order % len(rest)
			order /= len(rest)
			calls = append(calls, rest[i])
			rest = slices.Delete(rest, i, i+1)
		}
		f, _ := of(t, calls...)
		tells(t, f, want...)
	}
	for seed := range int64(20) {
		f, m := full(t, rand.New(rand.NewSource(seed)))
		tells(t, f, m.all()...)
		if all := f.All(); len(all) != 64 || all[0].Client != 1001 || all[63].Client != 1064 {
			t.Fatalf("All: %v", all)
		}
	}
}
