package watch_test

import (
	"math"
	"strings"
	"testing"

	"horologe/api"
)

func TestP1301Numbers(t *testing.T) {
	p := begun()
	is(t, "Len", p.h.Len(), 0)
	for want := 1; want <= 5; want++ {
		is(t, "Watch", p.watch(t, "a", "", want-2), want)
		is(t, "Len", p.h.Len(), want)
	}
	p.close(t, 5)
	is(t, "behind a Close of the last", p.watch(t, "a", "", 1), 6)
	for id := 1; id <= 6; id++ {
		p.close(t, id)
	}
	is(t, "Len", p.h.Len(), 0)
	is(t, "behind all of them", p.watch(t, "", "", 0), 7)
	is(t, "Len", p.h.Len(), 1)
}

// TestP1301From: a place below 1 is 1; one beyond Rev() is waited for.
func TestP1301From(t *testing.T) {
	for _, c := range []struct {
		from              int
		atOnce, fed, late string
	}{
		{math.MinInt, "1+a 2+b 3+a", "4+a", "5-a 5+b"}, {-1, "1+a 2+b 3+a", "4+a", "5-a 5+b"}, {0, "1+a 2+b 3+a", "4+a", "5-a 5+b"},
		{1, "1+a 2+b 3+a", "4+a", "5-a 5+b"}, {2, "2+b 3+a", "4+a", "5-a 5+b"}, {3, "3+a", "4+a", "5-a 5+b"},
		{4, "", "4+a", "5-a 5+b"}, {5, "", "", "5-a 5+b"}, {6, "", "", ""}, {1 << 62, "", "", ""}, {math.MaxInt, "", "", ""},
	} {
		p := begun()
		p.does(t, "a=1")
		p.does(t, "b=2")
		p.does(t, "a=3")
		id := p.watch(t, "a", "c", c.from)
		p.polls(t, id, 9, c.atOnce, "")
		p.does(t, "a=4")
		p.polls(t, id, 9, "")
		p.feed()
		p.polls(t, id, 9, c.fed, "")
		p.does(t, "-a", "b=5", "q=5")
		p.feed()
		p.feed()
		p.polls(t, id, 9, c.late, "")
	}
}

func TestP1301Ranges(t *testing.T) {
	most := strings.Repeat("\xff", 100)
	for _, c := range []struct{ lo, hi, want string }{
		{"a", "", "+a"}, {"b", "", "+b"}, {"c", "", ""}, {"", "", ""}, {"a\x00", "", "+a\x00"}, {most, "", "+" + most},
		{"a", "b", "+a +a\x00 +ab"}, {"a", "a\x00", "+a"}, {"a\x00", "b\x00", "+a\x00 +ab +b"}, {"", "a", ""}, {"", "b", "+a +a\x00 +ab"},
		{"b", "a", ""}, {"a", "a", ""}, {"b", "\xff", "+b"}, {"", most + "\xff", "+a +a\x00 +ab +b +" + most}, {"aa", "az", "+ab"}, {"b\x00", most, ""},
	} {
		p := begun()
		early := p.watch(t, c.lo, c.hi, 1)
		p.polls(t, early, 9, "")
		p.does(t, "a", "a\x00", "ab", "b", most)
		p.feed()
		want := strings.ReplaceAll(c.want, "+", "1+")
		p.polls(t, early, 9, want)
		p.polls(t, p.watch(t, c.lo, c.hi, 1), 9, want)
	}
}

func TestP1301Close(t *testing.T) {
	p := begun()
	for _, id := range []int{math.MinInt, -1, 0, 1, math.MaxInt} {
		is(t, "Close", p.close(t, id), api.ErrNone)
	}
	a, b := p.watch(t, "a", "", 1), p.watch(t, "a", "", 1)
	is(t, "Close of one that is to come", p.close(t, 3), api.ErrNone)
	p.polls(t, b, 1, "")
	p.does(t, "a")
	p.feed()
	is(t, "Close of one that is behind", p.close(t, a), api.OK)
	is(t, "twice", p.close(t, a), api.ErrNone)
	p.polls(t, a, 1, "none", "none")
	is(t, "Close of another, with something in its buffer", p.close(t, b), api.OK)
	is(t, "twice", p.close(t, b), api.ErrNone)
	p.polls(t, b, 1, "none")
	p.feed()
	c := p.watch(t, "a", "", 1)
	p.polls(t, c, 1, "1+a")
	p.compact(t, 1)
	d := p.watch(t, "a", "", 1)
	p.polls(t, d, 1, "past")
	is(t, "Close of one that Poll has closed", p.close(t, d), api.ErrNone)
	is(t, "Len", p.h.Len(), 1)
	is(t, "Close", p.close(t, c), api.OK)
	is(t, "Len", p.h.Len(), 0)
}

// TestP1301Len: a watcher is there till it is closed, or its end is told: not from when it is overflown or cut off.
func TestP1301Len(t *testing.T) {
	p := begun()
	over, cut, late := p.watch(t, "a", "z", 1), p.watch(t, "q", "", 1), p.watch(t, "a", "", 1)
	p.polls(t, over, 1, "")
	p.polls(t, cut, 1, "")
	for range 17 {
		p.does(t, "a", "b")
	}
	p.feed()
	is(t, "Len behind an overflow", p.h.Len(), 3)
	p.does(t, "q")
	p.compact(t, 18)
	p.feed()
	is(t, "Len behind a compaction", p.h.Len(), 3)
	p.polls(t, over, 1, "full")
	is(t, "Len behind ErrFull", p.h.Len(), 2)
	p.polls(t, cut, 1, "past")
	is(t, "Len behind ErrPast", p.h.Len(), 1)
	p.polls(t, late, 1, "past")
	is(t, "Len behind all", p.h.Len(), 0)
	p.polls(t, late, 1, "none")
	is(t, "Len behind ErrNone", p.h.Len(), 0)
	is(t, "Watch", p.watch(t, "a", "", 19), 4)
}
