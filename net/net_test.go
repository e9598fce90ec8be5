package net_test

import (
	"fmt"
	"math"
	"math/big"
	"math/rand"
	"slices"
	"testing"

	"horologe/api"
	"horologe/net"
)

// called is a message that is told from others by its number, in each of its parts.
func called(i int) api.Msg {
	return api.Msg{Kind: api.MApp, Seq: i, Entries: []api.Entry{{Index: i, Data: []byte{byte(i)}}, {}}, Meta: api.Meta{Voters: []int{i, i + 1}}, Data: []byte{byte(i), 0}}
}

// sent is a net with these messages on their way.
func sent(l ...int) *net.Net {
	n := net.New()
	for _, i := range l {
		n.Send(called(i))
	}
	return n
}

// isLen asks how many are on their way.
func isLen(t *testing.T, n *net.Net, want int) {
	t.Helper()
	if n.Len() != want {
		t.Errorf("%d on their way, not %d", n.Len(), want)
	}
}

// delivers asks for a message, which is on its way no more then.
func delivers(t *testing.T, n *net.Net, i, want int) {
	t.Helper()
	left := n.Len() - 1
	m, err := n.Deliver(i)
	if err != api.OK {
		t.Errorf("Deliver(%d): %v", i, err)
	}
	isMsg(t, fmt.Sprintf("Deliver(%d)", i), m, called(want))
	isLen(t, n, left)
}

// brings asks for all that is on its way, in order, and takes it.
func brings(t *testing.T, n *net.Net, want ...int) {
	t.Helper()
	isLen(t, n, len(want))
	for _, i := range want {
		delivers(t, n, 0, i)
	}
	isEmpty(t, n)
}

// isEmpty asks for ErrNone of all calls that pick one, whatever their number.
func isEmpty(t *testing.T, n *net.Net) {
	t.Helper()
	for _, i := range edges {
		m, err := n.Deliver(i)
		if dropped, doubled := n.Drop(i), n.Double(i); err != api.ErrNone || dropped != api.ErrNone || doubled != api.ErrNone {
			t.Errorf("%d of none: %v, %v, %v", i, err, dropped, doubled)
		}
		isMsg(t, "Deliver of none", m, api.Msg{})
		isLen(t, n, 0)
	}
}

// is asks for an error, or for OK.
func is(t *testing.T, what string, got, want api.Errno) {
	t.Helper()
	if got != want {
		t.Errorf("%s: %v, not %v", what, got, want)
	}
}

func TestP1502NoneOnItsWay(t *testing.T) {
	isEmpty(t, net.New())
	n := net.New()
	n.Send()
	n.Send([]api.Msg{}...)
	isEmpty(t, n)
	n.Send(called(1))
	delivers(t, n, 0, 1)
	isEmpty(t, n)
	n.Send(called(2), called(3))
	is(t, "Drop", n.Drop(0), api.OK)
	is(t, "Drop", n.Drop(0), api.OK)
	isEmpty(t, n)
	n.Send(called(4))
	brings(t, n, 4)
}

// TestP1502ANetThatIsNotOfNew is one of which nothing was sent yet.
func TestP1502ANetThatIsNotOfNew(t *testing.T) {
	isEmpty(t, new(net.Net))
	n := new(net.Net)
	n.Send(called(1), called(2))
	is(t, "Double", n.Double(0), api.OK)
	brings(t, n, 1, 2, 1)
}

func TestP1502OneOnItsWay(t *testing.T) {
	for _, i := range edges {
		n := sent(7)
		delivers(t, n, i, 7)
		isEmpty(t, n)
		n = sent(7)
		is(t, "Drop", n.Drop(i), api.OK)
		isEmpty(t, n)
		n = sent(7)
		is(t, "Double", n.Double(i), api.OK)
		brings(t, n, 7, 7)
	}
}

func TestP1502TheyComeInTheOrderInWhichTheyWereSent(t *testing.T) {
	n := net.New()
	n.Send(called(1), called(2), called(3))
	n.Send()
	n.Send(called(4))
	n.Send([]api.Msg{called(5), called(6)}...)
	n.Send(called(1)) // one like the first
	brings(t, n, 1, 2, 3, 4, 5, 6, 1)
	n.Send(called(7), called(8))
	delivers(t, n, 0, 7)
	n.Send(called(9))
	brings(t, n, 8, 9)
}

// placeOf tells which of so many a number picks.
func placeOf(i, count int) int {
	return int(new(big.Int).Mod(big.NewInt(int64(i)), big.NewInt(int64(count))).Int64())
}

// picks are numbers below 0, as many as there are, and beyond that.
func picks() []int {
	l := slices.Clone(edges)
	for i := -25; i <= 25; i++ {
		l = append(l, i)
	}
	return l
}

// upTo tells the numbers from 1 on.
func upTo(count int) []int {
	var l []int
	for i := range count {
		l = append(l, i+1)
	}
	return l
}

// TestP1502WhichOfSome holds each call that picks one: which it was, and that the others stay in their order.
func TestP1502WhichOfSome(t *testing.T) {
	for count := 1; count <= 9; count++ {
		all := upTo(count)
		for _, i := range picks() {
			at := placeOf(i, count)
			others := slices.Delete(slices.Clone(all), at, at+1)
			n := sent(all...)
			delivers(t, n, i, all[at])
			brings(t, n, others...)
			n = sent(all...)
			is(t, "Drop", n.Drop(i), api.OK)
			brings(t, n, others...)
			n = sent(all...)
			is(t, "Double", n.Double(i), api.OK)
			brings(t, n, append(slices.Clone(all), all[at])...)
		}
	}
}

func TestP1502WhichOfFive(t *testing.T) {
	for _, x := range []struct{ i, want int }{{0, 1}, {1, 2}, {4, 5}, {5, 1}, {6, 2}, {9, 5}, {10, 1}, {-1, 5}, {-2, 4}, {-4, 2}, {-5, 1}, {-6, 5}, {math.MaxInt, 3}, {math.MaxInt - 1, 2}, {math.MinInt, 3}, {math.MinInt + 1, 4}} {
		delivers(t, sent(1, 2, 3, 4, 5), x.i, x.want)
	}
}

// TestP1502DoubledOnesStandBehindTheOthers, those that were doubled ahead of them, too.
func TestP1502DoubledOnesStandBehindTheOthers(t *testing.T) {
	n := sent(1, 2, 3)
	is(t, "Double", n.Double(1), api.OK) // 1 2 3 2
	is(t, "Double", n.Double(0), api.OK) // 1 2 3 2 1
	isLen(t, n, 5)
	n.Send(called(4))
	is(t, "Double", n.Double(-3), api.OK) // 1 2 3 2 1 4 2
	is(t, "Double", n.Double(6), api.OK)
	is(t, "Drop", n.Drop(1), api.OK)
	brings(t, n, 1, 3, 2, 1, 4, 2, 2)
}

// TestP1502ADoubledOneOutlivesTheOther, whichever of them is delivered or lost.
func TestP1502ADoubledOneOutlivesTheOther(t *testing.T) {
	for _, at := range []int{0, 2} {
		n := sent(1, 2)
		is(t, "Double", n.Double(0), api.OK)
		delivers(t, n, at, 1)
		is(t, "Drop", n.Drop(at), api.OK)
		n = sent(1, 2)
		is(t, "Double", n.Double(0), api.OK)
		is(t, "Drop", n.Drop(at), api.OK)
		want := []int{2, 1}
		if at == 2 {
			want = []int{1, 2}
		}
		brings(t, n, want...)
	}
}

// TestP1502AnyMessage is taken and brought as it is, though Encode would refuse it.
func TestP1502AnyMessage(t *testing.T) {
	l := []api.Msg{{}, full(), listed(300, 300), {Kind: -1, Entries: []api.Entry{{Kind: 256}, {Kind: math.MinInt}}}, {Kind: math.MaxInt, Data: make([]byte, most)}}
	for _, x := range samples() {
		l = append(l, x.msg)
	}
	for _, n := range edges {
		l = append(l, api.Msg{Kind: n, From: n, To: n, Term: n, Index: n, LogTerm: n, Commit: n, Seq: n, Match: n, OK: n > 0, Meta: api.Meta{Index: n, Term: n}})
	}
	n := net.New()
	n.Send(l...)
	for i := range l {
		is(t, "Double", n.Double(i), api.OK)
	}
	isLen(t, n, 2*len(l))
	for i := range 2 * len(l) {
		m, err := n.Deliver(0)
		is(t, "Deliver", err, api.OK)
		isMsg(t, fmt.Sprint("message ", i), m, l[i%len(l)])
	}
	isEmpty(t, n)
}

// TestP1502DrawnCalls holds a net against a list, few and many being on their way.
func TestP1502DrawnCalls(t *testing.T) {
	for seed := range int64(200) {
		r := rand.New(rand.NewSource(seed))
		n, next := net.New(), 0
		var on []int
		for range 1000 {
			i := r.Int() >> r.Intn(63)
			if r.Intn(2) == 0 {
				i = -i - 1
			}
			call := r.Intn(3 + int(seed%3))
			switch {
			case call >= 3: // with many of these, more and more are on their way
				for range r.Intn(4) {
					next++
					n.Send(called(next))
					on = append(on, next)
				}
			case len(on) == 0:
				isEmpty(t, n)
			case call == 0:
				at := placeOf(i, len(on))
				delivers(t, n, i, on[at])
				on = slices.Delete(on, at, at+1)
			case call == 1 && r.Intn(3) == 0:
				at := placeOf(i, len(on))
				is(t, "Drop", n.Drop(i), api.OK)
				on = slices.Delete(on, at, at+1)
			case call == 2:
				is(t, "Double", n.Double(i), api.OK)
				on = append(on, on[placeOf(i, len(on))])
			}
			if len(on) == 0 {
				next++
				n.Send(called(next))
				on = append(on, next)
			}
			isLen(t, n, len(on))
		}
		brings(t, n, on...)
		if t.Failed() {
			t.Fatalf("seed %d", seed)
		}
	}
}

// TestP1502ManyOnTheirWay: it ends soon, also where each is taken from the front, from the end, from between.
func TestP1502ManyOnTheirWay(t *testing.T) {
	all := upTo(20000)
	for _, at := range []func(left int) int{func(int) int { return 0 }, func(int) int { return -1 }, func(left int) int { return left / 2 }} {
		n, on := sent(all...), slices.Clone(all)
		for len(on) > 0 {
			i := placeOf(at(len(on)), len(on))
			m, err := n.Deliver(at(len(on)))
			if err != api.OK || m.Seq != on[i] {
				t.Fatalf("%d of %d: %d, %v, not %d", i, len(on), m.Seq, err, on[i])
			}
			on = slices.Delete(on, i, i+1)
		}
		isEmpty(t, n)
	}
}
