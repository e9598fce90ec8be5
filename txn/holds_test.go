package txn_test

import (
	"bytes"
	"fmt"
	"math"
	"slices"
	"strings"
	"testing"

	"horologe/api"
	"horologe/mvcc"
	"horologe/txn"
)

// aged is a store in which all numbers of k are unlike: Create 2, Mod 6, Version 3, Lease 9; gone was there, and went.
func aged(t *testing.T) (*mvcc.Store, *model) {
	return of(t, then(put("gone", "1")), then(put("k", "x")), then(put("k", "y")), then(put("other", "z"), del("gone", "")), then(put("other", "zz")), then(api.Op{Key: "k", Value: "m", Lease: 9}))
}

// asks asks of one comparison with each sign, those that are none too: how the key's lies to it.
func asks(t *testing.T, s *mvcc.Store, m *model, c api.If, order int) {
	t.Helper()
	for sign, want := range map[int]bool{api.SEqual: order == 0, api.SUnlike: order != 0, api.SLess: order < 0, api.SGreater: order > 0, -1: false, 4: false, -4: false, 1 << 32: false, math.MinInt: false, math.MaxInt: false} {
		c.Sign = sign
		what := fmt.Sprintf("%.10q, Target %d, Sign %d, N %d, Text %.10q", c.Key, c.Target, sign, c.N, c.Text)
		is(t, what, txn.Holds(s, c), want)
		is(t, what+", the model", m.holds(c), want)
	}
}

func TestP902Numbers(t *testing.T) {
	s, m := aged(t)
	for target, of := range map[int]map[string]int{
		api.TVersion: {"k": 3, "other": 2, "gone": 0, "none": 0},
		api.TCreate:  {"k": 2, "other": 4, "gone": 0, "none": 0},
		api.TMod:     {"k": 6, "other": 5, "gone": 0, "none": 0},
		api.TLease:   {"k": 9, "other": 0, "gone": 0, "none": 0},
	} {
		for key, n := range of {
			for _, text := range []string{"", "m", "zzz"} { // not asked for
				for _, c := range []struct{ n, order int }{
					{n, 0}, {n - 1, 1}, {n + 1, -1}, {-1, 1}, {10, -1}, {1 << 31, -1}, {1<<32 + n, -1}, {-1<<32 + n, 1}, {1 << 62, -1}, {-1 << 62, 1}, {math.MaxInt, -1}, {math.MinInt, 1}, {math.MinInt + 1, 1}, {math.MinInt + n, 1},
				} {
					asks(t, s, m, api.If{Key: key, Target: target, N: c.n, Text: text}, c.order)
				}
			}
		}
	}
}

func TestP902NumbersAtTheEnds(t *testing.T) {
	s, m := mvcc.New(), newModel(math.MaxInt, math.MaxInt-1)
	does(t, s, m, then(leased("last", math.MaxInt), leased("ahead", math.MaxInt-1)))
	for _, c := range []struct {
		key      string
		n, order int
	}{
		{"last", math.MaxInt, 0}, {"last", math.MaxInt - 1, 1}, {"last", 0, 1}, {"last", -1, 1}, {"last", -2, 1}, {"last", math.MinInt, 1}, {"last", math.MinInt + 1, 1},
		{"ahead", math.MaxInt, -1}, {"ahead", math.MaxInt - 1, 0}, {"ahead", math.MinInt, 1}, {"ahead", -1, 1}, {"ahead", -3, 1},
		{"none", math.MaxInt, -1}, {"none", math.MinInt, 1},
	} {
		asks(t, s, m, api.If{Key: c.key, Target: api.TLease, N: c.n}, c.order)
	}
}

func TestP902Texts(t *testing.T) {
	rising := []string{"", "\x00", "\x00\x00", "A", "a", "a\x00", "a\x00b", "aa", "ab", "b", "z", "é", "\xed\xa0\x80", "\xef\xbf\xbd", "\xfe", "\xff", "\xff\x00", "\xff\xff"}
	rising = slices.Insert(rising, 16, "\xff"+strings.Repeat("\x00", 4095))[:17]
	for i, value := range rising {
		s, m := of(t, then(put("k", value)))
		for j, text := range rising {
			for _, n := range []int{0, 1, -5} { // not asked for
				asks(t, s, m, api.If{Key: "k", Target: api.TValue, N: n, Text: text}, order(i, j))
			}
			asks(t, s, m, api.If{Key: "none", Target: api.TValue, Text: text}, order(0, j))
		}
		asks(t, s, m, api.If{Key: "k", Target: api.TValue, Text: strings.Repeat("\xff", 10000)}, -1)
	}
}

func TestP902TextsThatAreLong(t *testing.T) {
	s, m := of(t, then(put("k", largest)))
	for text, order := range map[string]int{largest: 0, largest[1:]: 1, tooLarge: -1, largest + "\x00": -1, largest[1:] + "u": 1, largest[1:] + "w": -1, "": 1} {
		asks(t, s, m, api.If{Key: "k", Target: api.TValue, Text: text}, order)
	}
}

func TestP902TargetsThatAreNone(t *testing.T) {
	s, _ := aged(t)
	for _, target := range []int{math.MinInt, -256, -2, -1, 5, 6, 256, 260, 1 << 32, math.MaxInt} {
		for _, sign := range []int{math.MinInt, -1, 0, 1, 2, 3, 4, math.MaxInt} {
			for _, n := range []int{0, 1, 2, 3, 6, 9, -1} {
				for _, key := range []string{"k", "none", ""} {
					if txn.Holds(s, api.If{Key: key, Target: target, Sign: sign, N: n, Text: "m"}) {
						t.Errorf("%q, Target %d, Sign %d, N %d holds", key, target, sign, n)
					}
				}
			}
		}
	}
}

// TestP902KeysThatAreNone: Holds refuses nothing; what is no key is not there.
func TestP902KeysThatAreNone(t *testing.T) {
	s, m := aged(t)
	for _, key := range []string{"", tooLong, strings.Repeat("k", 5000), "\xff"} {
		for target := range 5 {
			asks(t, s, m, api.If{Key: key, Target: target}, 0)
			asks(t, s, m, api.If{Key: key, Target: target, N: 1, Text: "a"}, -1)
		}
	}
}

func TestP902AllOfThem(t *testing.T) {
	s, m := aged(t)
	yes, no := api.If{Key: "k", Target: api.TMod, N: 6}, api.If{Key: "k", Target: api.TMod, N: 5}
	is(t, "none", txn.Holds(s), true)
	is(t, "none, of a new store", txn.Holds(mvcc.New()), true)
	is(t, "one", txn.Holds(s, yes), true)
	is(t, "one that does not", txn.Holds(s, no), false)
	is(t, "none that does", txn.Holds(s, no, no), false)
	for n := 1; n <= 100; n += 33 { // more than Check would let pass, too
		l := slices.Repeat(ifs(yes), n)
		is(t, "all", txn.Holds(s, l...), true)
		for i := range l {
			for _, one := range []api.If{no, {Key: "k", Target: 5}, {Key: "none", Sign: -1}} {
				l[i] = one
				is(t, fmt.Sprintf("%d of %d does not", i, n), txn.Holds(s, l...), false)
				l[i] = yes
			}
		}
	}
	many := ifs(yes, api.If{Key: "k", Target: api.TValue, Sign: api.SGreater, Text: "a"}, api.If{Key: "none"}, api.If{Key: "other", Target: api.TLease}, api.If{Key: "other", Target: api.TCreate, Sign: api.SUnlike, N: 5}, api.If{Key: "other", Sign: api.SLess, N: 3})
	is(t, "of several keys", txn.Holds(s, many...), true)
	is(t, "of several keys, the model", m.holds(many...), true)
}

func TestP902AsItIsNow(t *testing.T) {
	s, m := aged(t)
	does(t, s, m, then(del("k", "")))
	asks(t, s, m, api.If{Key: "k", Target: api.TVersion, N: 0}, 0)
	asks(t, s, m, api.If{Key: "k", Target: api.TCreate, N: 1}, -1)
	does(t, s, m, then(put("k", "anew")))
	asks(t, s, m, api.If{Key: "k", Target: api.TVersion, N: 1}, 0)
	asks(t, s, m, api.If{Key: "k", Target: api.TCreate, N: 8}, 0)
	asks(t, s, m, api.If{Key: "k", Target: api.TLease, N: 9}, -1)
	is(t, "Compact", s.Compact(8), api.OK)
	asks(t, s, m, api.If{Key: "k", Target: api.TMod, N: 8}, 0)
	asks(t, s, m, api.If{Key: "k", Target: api.TValue, Text: "anew"}, 0)
	asks(t, s, m, api.If{Key: "other", Target: api.TCreate, N: 4}, 0)
}

func TestP902ChangesNothing(t *testing.T) {
	s, _ := aged(t)
	before := s.Save()
	w := s.Write()
	w.Put("k", "within", 0)
	is(t, "what a write has not done yet", txn.Holds(s, api.If{Key: "k", Target: api.TValue, Text: "m"}), true)
	txn.Holds(s, never, api.If{Target: 9})
	is(t, "Save", bytes.Equal(s.Save(), before), true)
	is(t, "the write goes on", w.Done(), 7)
	is(t, "then", txn.Holds(s, api.If{Key: "k", Target: api.TValue, Text: "within"}), true)
}
