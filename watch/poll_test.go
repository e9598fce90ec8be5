package watch_test

import (
	"math"
	"testing"

	"horologe/api"
)

func TestP1303NoSuchWatcher(t *testing.T) {
	p := begun()
	for _, most := range []int{math.MinInt, 0, 1, math.MaxInt} {
		for _, id := range []int{math.MinInt, -1, 0, 1, 2, math.MaxInt} {
			p.polls(t, id, most, "none")
		}
	}
	p.watch(t, "a", "", 1)
	p.polls(t, 0, 1, "none")
	p.polls(t, 2, 1, "none")
	is(t, "Len", p.h.Len(), 1)
}

// behind is a store whose revisions have 1, 2, 0, 3, 1 changes in the range from k to l.
func behind(t *testing.T) pair {
	p := begun()
	p.does(t, "k1=1")
	p.does(t, "k2=2", "a=2", "k1=2")
	p.does(t, "a=3")
	p.does(t, "k3=4", "-k1", "b=4", "k2=4")
	p.does(t, "k1=5")
	return p
}

func TestP1303BehindByWholeRevisions(t *testing.T) {
	for _, c := range []struct {
		most int
		want []string
	}{
		{math.MinInt, []string{"1+k1", "2+k2 2+k1", "4+k3 4-k1 4+k2", "5+k1", ""}},
		{-1, []string{"1+k1", "2+k2 2+k1", "4+k3 4-k1 4+k2", "5+k1", ""}},
		{0, []string{"1+k1", "2+k2 2+k1", "4+k3 4-k1 4+k2", "5+k1", ""}},
		{1, []string{"1+k1", "2+k2 2+k1", "4+k3 4-k1 4+k2", "5+k1", ""}},
		{2, []string{"1+k1", "2+k2 2+k1", "4+k3 4-k1 4+k2", "5+k1", ""}},
		{3, []string{"1+k1 2+k2 2+k1", "4+k3 4-k1 4+k2", "5+k1", ""}},
		{4, []string{"1+k1 2+k2 2+k1", "4+k3 4-k1 4+k2 5+k1", ""}},
		{5, []string{"1+k1 2+k2 2+k1", "4+k3 4-k1 4+k2 5+k1", ""}},
		{6, []string{"1+k1 2+k2 2+k1 4+k3 4-k1 4+k2", "5+k1", ""}},
		{7, []string{"1+k1 2+k2 2+k1 4+k3 4-k1 4+k2 5+k1", ""}},
		{math.MaxInt, []string{"1+k1 2+k2 2+k1 4+k3 4-k1 4+k2 5+k1", ""}},
	} {
		p := behind(t)
		p.polls(t, p.watch(t, "k", "l", 1), c.most, c.want...)
	}
}

// TestP1303BehindNoMore: with the last change that is there a watcher is behind no more, and hears by Feed alone.
func TestP1303BehindNoMore(t *testing.T) {
	p := behind(t)
	id, later := p.watch(t, "k", "l", 1), p.watch(t, "k", "l", 1)
	p.polls(t, id, 4, "1+k1 2+k2 2+k1")
	p.does(t, "k1=6")
	p.polls(t, id, 4, "4+k3 4-k1 4+k2 5+k1")
	p.polls(t, id, 4, "6+k1") // it was behind still
	p.polls(t, later, 9, "1+k1 2+k2 2+k1 4+k3 4-k1 4+k2 5+k1 6+k1")
	p.does(t, "k1=7")
	p.polls(t, id, 4, "", "")
	p.polls(t, later, 4, "", "")
	p.feed()
	p.polls(t, id, 4, "7+k1", "")
	p.polls(t, later, 4, "7+k1", "")
}

// TestP1303RevisionsWithoutAChange: behind the last change in its range a watcher's place is one behind Rev(), and between two of them one behind the first.
func TestP1303RevisionsWithoutAChange(t *testing.T) {
	p := begun()
	p.does(t, "a=1")
	for range 5 {
		p.does(t, "b=1")
	}
	last, none := p.watch(t, "a", "", 1), p.watch(t, "q", "", 1)
	p.polls(t, last, 1, "1+a")
	p.polls(t, none, 1, "")
	p.compact(t, 6) // nothing of what they have yet to hear
	p.does(t, "a=7")
	p.feed()
	p.polls(t, last, 1, "7+a", "")
	p.polls(t, none, 1, "")

	p.does(t, "b=8")
	p.does(t, "b=9")
	p.does(t, "a=10")
	between := p.watch(t, "a", "", 7)
	p.polls(t, between, 1, "7+a")
	p.compact(t, 8) // its place is 8, though its next change is at 10
	p.polls(t, between, 1, "past", "none")

	between = p.watch(t, "a", "", 9)
	p.does(t, "a=11")
	p.polls(t, between, 1, "10+a")
	p.compact(t, 10)
	p.polls(t, between, 1, "11+a", "")
}

func TestP1303BehindPast(t *testing.T) {
	for _, c := range []struct {
		from, at int
		want     string
	}{
		{1, 1, "past"}, {-7, 1, "past"}, {2, 1, "2+a 3+a 4+a"}, {1, 3, "past"}, {2, 3, "past"}, {3, 3, "past"}, {4, 3, "4+a"}, {5, 3, ""}, {4, 4, "past"}, {5, 4, ""}, {6, 4, ""}, {math.MaxInt, 4, ""},
	} {
		for _, key := range []string{"a", "q"} {
			p := begun()
			for range 4 {
				p.does(t, "a=1")
			}
			id := p.watch(t, key, "", c.from)
			p.compact(t, c.at)
			want := c.want
			if key == "q" && want != "past" {
				want = ""
			}
			p.polls(t, id, 9, want)
			if want == "past" {
				p.polls(t, id, 9, "none", "none")
				is(t, "Len", p.h.Len(), 0)
			} else {
				p.polls(t, id, 9, "")
			}
		}
	}
}

// TestP1303PastOnTheWay: what was told stays told, and the end comes once.
func TestP1303PastOnTheWay(t *testing.T) {
	p := behind(t)
	id, other := p.watch(t, "k", "l", 1), p.watch(t, "k", "l", 1)
	p.polls(t, id, 1, "1+k1")
	p.compact(t, 1)
	p.polls(t, id, 1, "2+k2 2+k1")
	p.compact(t, 3)
	p.polls(t, id, 1, "past", "none")
	p.polls(t, other, 1, "past", "none")
	is(t, "Len", p.h.Len(), 0)
}

func TestP1303BehindBeyondRev(t *testing.T) {
	p := begun()
	id, next := p.watch(t, "a", "", 3), p.watch(t, "a", "", 1)
	p.polls(t, id, 9, "", "")
	p.does(t, "a=1")
	p.polls(t, id, 9, "")
	p.polls(t, next, 9, "1+a")
	waits := p.watch(t, "a", "", 3) // behind, till it is polled
	p.does(t, "a=2")
	p.does(t, "a=3")
	p.feed()
	p.polls(t, id, 9, "3+a", "")
	p.polls(t, next, 9, "2+a 3+a", "")
	p.polls(t, waits, 9, "3+a", "")
}

// TestP1303Buffer takes events from a buffer in pieces of all sizes, also in the midst of a revision.
func TestP1303Buffer(t *testing.T) {
	for _, c := range []struct {
		most int
		want []string
	}{
		{math.MinInt, []string{"1+k1", "1+k2", "2+k3", "2-k1", "2+k2", "", ""}}, {-1, []string{"1+k1", "1+k2"}}, {0, []string{"1+k1", "1+k2", "2+k3", "2-k1", "2+k2", ""}},
		{1, []string{"1+k1", "1+k2", "2+k3", "2-k1", "2+k2", ""}}, {2, []string{"1+k1 1+k2", "2+k3 2-k1", "2+k2", ""}}, {3, []string{"1+k1 1+k2 2+k3", "2-k1 2+k2", ""}}, {4, []string{"1+k1 1+k2 2+k3 2-k1", "2+k2", ""}},
		{5, []string{"1+k1 1+k2 2+k3 2-k1 2+k2", ""}}, {6, []string{"1+k1 1+k2 2+k3 2-k1 2+k2", ""}}, {math.MaxInt, []string{"1+k1 1+k2 2+k3 2-k1 2+k2", ""}},
	} {
		p := begun()
		id := p.watch(t, "k", "l", 1)
		p.polls(t, id, c.most, "", "")
		p.does(t, "k1=1", "k2=1", "x=1")
		p.does(t, "k3=2", "-x", "-k1", "k2=2")
		p.feed()
		p.polls(t, id, c.most, c.want...)
	}
}

// TestP1303Ends: ErrFull and ErrPast are told once, behind all that was kept.
func TestP1303Ends(t *testing.T) {
	for _, most := range []int{0, 1, 2, 16, 99} {
		for _, end := range []string{"full", "past"} {
			p := begun()
			id := p.watch(t, "k", "l", 1)
			p.polls(t, id, 1, "")
			p.does(t, keys(2)...)
			p.feed()
			if p.does(t, keys(15)...); end == "past" {
				p.compact(t, 2)
			}
			p.feed()
			want := []string{"1+k00", "1+k01"}
			if most > 1 {
				want = []string{"1+k00 1+k01"}
			}
			p.polls(t, id, most, append(want, end, "none", "none")...)
			is(t, "Close", p.close(t, id), api.ErrNone)
		}
	}
}

// TestP1303TheExample is that of the chapter.
func TestP1303TheExample(t *testing.T) {
	p := begun()
	p.does(t, "a=1")
	p.does(t, "a=2")
	id := p.watch(t, "a", "", 1)
	p.polls(t, id, 9, "1+a 2+a", "")
	p.does(t, "a=3")
	p.polls(t, id, 9, "")
	p.feed()
	p.polls(t, id, 9, "3+a", "")
}
