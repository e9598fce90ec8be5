package watch_test

import (
	"fmt"
	"strings"
	"testing"
)

// keys are k00, k01 and so on, as a front of a revision's operations.
func keys(n int) []string {
	var l []string
	for i := range n {
		l = append(l, fmt.Sprintf("k%02d=%d", i, i))
	}
	return l
}

// toldKeys are what a watcher of these keys is told of a revision that put them.
func toldKeys(rev, from, n int) string {
	var l []string
	for i := from; i < n; i++ {
		l = append(l, fmt.Sprintf("%d+k%02d", rev, i))
	}
	return strings.Join(l, " ")
}

func TestP1302BehindHearsNothingByIt(t *testing.T) {
	p := begun()
	id := p.watch(t, "k", "l", 1)
	for range 3 {
		p.does(t, keys(20)...)
		p.feed()
	}
	// were it fed, 60 events would have been too many, and twice the same ones told
	p.polls(t, id, 20, toldKeys(1, 0, 20), toldKeys(2, 0, 20))
	p.feed()
	p.polls(t, id, 20, toldKeys(3, 0, 20), "")
	p.feed()
	p.polls(t, id, 20, "")
}

func TestP1302InOrder(t *testing.T) {
	p := begun()
	one, some, all := p.watch(t, "b", "", 1), p.watch(t, "b", "d", 1), p.watch(t, "\x00", "\xff", 1)
	for _, id := range []int{one, some, all} {
		p.polls(t, id, 1, "")
	}
	p.does(t, "c=1", "a=1", "b=1")
	p.does(t, "d=2")
	p.does(t, "b=3", "-c", "-a")
	p.does(t, "-b", "e=4")
	for _, id := range []int{one, some, all} {
		p.polls(t, id, 9, "") // nothing is heard ahead of Feed
	}
	p.feed()
	p.does(t, "c=5", "b=5")
	p.polls(t, one, 99, "1+b 3+b 4-b", "")
	p.feed()
	p.feed()
	p.polls(t, one, 99, "5+b", "")
	p.polls(t, some, 99, "1+c 1+b 3+b 3-c 4-b 5+c 5+b", "")
	p.polls(t, all, 99, "1+c 1+a 1+b 2+d 3+b 3-c 3-a 4-b 4+e 5+c 5+b", "")
}

// TestP1302Buffer lays 15, 16 and 17 events into a buffer, at once or one by one.
func TestP1302Buffer(t *testing.T) {
	for _, n := range []int{15, 16, 17, 18} {
		atOnce, byRevisions, byFeeds := begun(), begun(), begun()
		for _, p := range []pair{atOnce, byRevisions, byFeeds} {
			p.polls(t, p.watch(t, "a", "z", 1), 1, "")
		}
		atOnce.does(t, keys(n)...)
		for range n {
			byRevisions.does(t, "k=1")
			byFeeds.does(t, "k=1")
			byFeeds.feed()
		}
		atOnce.feed()
		byRevisions.feed()
		var each []string
		for i := range min(n, 16) {
			each = append(each, fmt.Sprint(i+1, "+k"))
		}
		if n <= 16 {
			atOnce.polls(t, 1, 99, toldKeys(1, 0, n), "", "")
			byRevisions.polls(t, 1, 99, strings.Join(each, " "), "", "")
			byFeeds.polls(t, 1, 1, append(each, "", "")...)
			continue
		}
		atOnce.polls(t, 1, 99, "full", "none")
		byRevisions.polls(t, 1, 99, "full", "none")
		byFeeds.polls(t, 1, 1, append(each, "full", "none")...)
	}
}

// TestP1302Overflown: what was there stays, as it was ahead of that Feed, and nothing comes behind it, though there would be room.
func TestP1302Overflown(t *testing.T) {
	p := begun()
	id, other := p.watch(t, "k", "l", 1), p.watch(t, "k00", "", 1)
	p.polls(t, id, 1, "")
	p.polls(t, other, 1, "")
	p.does(t, keys(10)...)
	p.feed()
	p.does(t, keys(3)...)
	p.does(t, keys(4)...) // 10, 13, and 17
	p.feed()
	p.does(t, "k05=0")
	p.feed() // there would be room for this one
	p.polls(t, id, 4, "1+k00 1+k01 1+k02 1+k03")
	p.feed() // and for all the others
	p.polls(t, id, 4, "1+k04 1+k05 1+k06 1+k07")
	p.feed()
	p.polls(t, id, 4, "1+k08 1+k09", "full", "none")
	p.feed()
	p.polls(t, id, 4, "none")
	p.polls(t, other, 9, "1+k00 2+k00 3+k00", "")
}

// TestP1302RoomByPolls: what was polled is in the buffer no more.
func TestP1302RoomByPolls(t *testing.T) {
	p := begun()
	id := p.watch(t, "k", "l", 1)
	p.polls(t, id, 1, "")
	p.does(t, keys(16)...)
	p.feed()
	p.does(t, "x=1")
	p.feed() // nothing for it, and its buffer is full
	p.polls(t, id, 1, "1+k00")
	p.does(t, "k00=2")
	p.feed()
	p.polls(t, id, 15, toldKeys(1, 1, 16))
	for rev := 4; rev < 60; rev++ {
		p.does(t, "k00=2", "k01=3")
		p.feed()
		if rev%8 == 2 { // once sixteen are there, from the second time on
			p.poll(t, id, 99)
		}
	}
	p.polls(t, id, 99, "59+k00 59+k01", "")
}

// TestP1302CutOff: of a watcher at place 4 a compaction of 3 cuts nothing off; one of 4 does, whatever its range is.
func TestP1302CutOff(t *testing.T) {
	for _, c := range []struct {
		at          int
		hears, deaf string
	}{{1, "4+a 5+a", ""}, {2, "4+a 5+a", ""}, {3, "4+a 5+a", ""}, {4, "past", "past"}, {5, "past", "past"}} {
		p := begun()
		empty, laden, deaf := p.watch(t, "a", "", 1), p.watch(t, "a", "", 1), p.watch(t, "q", "", 1)
		p.polls(t, empty, 9, "")
		p.polls(t, laden, 9, "")
		p.polls(t, deaf, 9, "")
		for range 3 {
			p.does(t, "a=1")
		}
		p.feed()
		p.polls(t, empty, 9, "1+a 2+a 3+a")
		p.does(t, "a=4")
		p.does(t, "a=5")
		p.compact(t, c.at)
		p.polls(t, empty, 9, "") // it is Feed that sees it
		p.feed()
		p.polls(t, empty, 9, c.hears)
		p.polls(t, deaf, 9, c.deaf)
		p.polls(t, laden, 3, "1+a 2+a 3+a", c.hears) // what was there stays
	}
}

// TestP1302CutOffStays: nothing is laid into one that is cut off, and it is cut off once.
func TestP1302CutOffStays(t *testing.T) {
	p := begun()
	id, full := p.watch(t, "a", "", 1), p.watch(t, "a", "z", 1)
	p.polls(t, id, 9, "")
	p.polls(t, full, 9, "")
	p.does(t, "a=1")
	p.feed()
	p.does(t, "a=2")
	p.does(t, keys(20)...)
	p.compact(t, 2)
	p.feed()
	p.does(t, "a=4")
	p.feed()
	p.compact(t, 4)
	p.feed()
	p.polls(t, id, 9, "1+a", "past", "none")
	p.polls(t, full, 9, "1+a", "past", "none") // what is compacted can't be too many
}

// TestP1302OverflownAheadOfACompaction stays overflown.
func TestP1302OverflownAheadOfACompaction(t *testing.T) {
	p := begun()
	id := p.watch(t, "a", "z", 1)
	p.polls(t, id, 9, "")
	p.does(t, "a=1")
	p.feed()
	p.does(t, keys(16)...)
	p.feed()
	p.compact(t, 2)
	p.feed()
	p.polls(t, id, 9, "1+a", "full", "none")
}

// TestP1302CompactedAheadOfItsPlace: a watcher that goes on with each Feed hears all, however near the compaction is.
func TestP1302CompactedAheadOfItsPlace(t *testing.T) {
	p := begun()
	id, deaf := p.watch(t, "a", "", 1), p.watch(t, "q", "", 1)
	p.polls(t, id, 9, "")
	p.polls(t, deaf, 9, "")
	for rev := 1; rev < 40; rev++ {
		p.does(t, "a=1", "b=2")
		p.feed()
		p.compact(t, rev)
		p.feed()
		p.polls(t, id, 9, fmt.Sprint(rev, "+a"), "")
		p.polls(t, deaf, 9, "")
	}
}

// TestP1302PlaceBeyondRev: it stays where it is till the store has come there.
func TestP1302PlaceBeyondRev(t *testing.T) {
	p := begun()
	id := p.watch(t, "a", "", 4)
	p.polls(t, id, 9, "")
	for rev := 1; rev <= 6; rev++ {
		p.does(t, "a=1")
		p.feed()
		p.compact(t, rev) // of a place that is ahead nothing was compacted
		p.feed()
	}
	p.polls(t, id, 9, "4+a 5+a 6+a", "")
}
