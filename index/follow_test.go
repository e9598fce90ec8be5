package index_test

import (
	"math"
	"math/rand"
	"slices"
	"strings"
	"testing"
	"unsafe"

	"horologe/api"
	"horologe/index"
)

// seen tells the mark by which a key is there at rev; none (a zero Mark), if it is not.
func seen(marks []index.Mark, rev int) index.Mark {
	at := index.Mark{}
	for _, m := range marks {
		if m.Rev <= rev {
			at = m
		}
	}
	if at.Del {
		return index.Mark{}
	}
	return at
}

// views tells how each of the keys looks at each revision of from to upto.
func views(x *index.Index, keys []string, from, upto int) []index.Mark {
	var l []index.Mark
	for _, key := range keys {
		marks := x.Marks(key)
		for rev := from; rev <= upto; rev++ {
			l = append(l, seen(marks, rev))
		}
	}
	return l
}

// TestP704LooksAsAhead draws Puts and Trims; all that is told is held against the model, and each key's looks behind a Trim against those ahead of it.
func TestP704LooksAsAhead(t *testing.T) {
	for seed := range int64(60) {
		r := rand.New(rand.NewSource(704000 + seed))
		x, m := index.New(), model{}
		var known []string
		last := 1
		for range 400 {
			if r.Intn(12) > 0 {
				key := drawnKey(r)
				if r.Intn(3) > 0 && len(known) > 0 {
					key = known[r.Intn(len(known))]
				}
				mark := index.Mark{Rev: last + r.Intn(4) - 1, Del: r.Intn(5) < 2}
				got, want := x.Put(key, mark), m.put(key, mark)
				if got != want {
					t.Fatalf("seed %d: Put(%q, %v): %v, not %v", seed, key, mark, got, want)
				}
				if got == api.OK {
					known = append(known, key)
					last = max(last, mark.Rev)
				}
				continue
			}
			rev := last - r.Intn(40) + 2
			ahead := views(x, known, rev, last+2)
			x.Trim(rev)
			m.trim(rev)
			isAs(t, x, m)
			if !slices.Equal(views(x, known, rev, last+2), ahead) {
				t.Fatalf("seed %d: Trim(%d): a key looks otherwise than ahead of it", seed, rev)
			}
			lo, hi := drawnKey(r), drawnKey(r)
			if got, want := x.Keys(lo, hi), m.keys(lo, hi); !slices.Equal(got, want) {
				t.Fatalf("seed %d: Keys(%q, %q): %q, not %q", seed, lo, hi, got, want)
			}
		}
	}
}

// TestP704TrimTwice: what a Trim has forgotten, one of the same or a lower revision leaves as it is; one of a higher does what it does alone.
func TestP704TrimTwice(t *testing.T) {
	l := model{"a": {put(2), del(4), put(6), put(8), del(10)}, "b": {put(1), put(7)}, "c": {put(5), del(9)}}
	for one := range 13 {
		for two := range 13 {
			x, m := of(t, l)
			x.Trim(one)
			x.Trim(two)
			m.trim(max(one, two))
			isAs(t, x, m)
		}
	}
}

func TestP1WhateverIsHandedIn(t *testing.T) {
	r := rand.New(rand.NewSource(701))
	revs := []int{math.MinInt, math.MinInt + 1, -1 << 62, -1, 0, 1, 2, 3, 1 << 31, 1 << 62, math.MaxInt - 1, math.MaxInt}
	keys := []string{"", "\x00", "a", "b", longest, tooLong, strings.Repeat("\xff", 1000), "\xff", "\xed\xa0\x80"}
	x, m := index.New(), model{}
	for range 4000 {
		key, hi, rev := keys[r.Intn(len(keys))], keys[r.Intn(len(keys))], revs[r.Intn(len(revs))]
		switch r.Intn(8) {
		case 0:
			x.Trim(rev)
			m.trim(rev)
		case 1:
			if got, want := x.Keys(key, hi), m.keys(key, hi); !slices.Equal(got, want) {
				t.Fatalf("Keys(%q, %q): %q, not %q", key, hi, got, want)
			}
		case 2:
			if got := x.Marks(key); !slices.Equal(got, m[key]) {
				t.Fatalf("Marks(%q): %v, not %v", key, got, m[key])
			}
		default:
			mark := index.Mark{Rev: rev, Del: r.Intn(2) == 0}
			if got, want := x.Put(key, mark), m.put(key, mark); got != want {
				t.Fatalf("Put(%q, %v): %v, not %v", key, mark, got, want)
			}
		}
		isAs(t, x, m)
	}
}

func TestP2AnswersAreTheCallersOwn(t *testing.T) {
	x, m := of(t, model{"a": {put(1), put(2), put(3)}, "b": {put(4)}, "c": {put(5)}})
	for range 3 {
		one, two := x.Marks("a"), x.Marks("a")
		for i := range one[:cap(one)] {
			one[:cap(one)][i] = del(99)
		}
		if !slices.Equal(two, m["a"]) {
			t.Fatalf("Marks share memory: %v", two)
		}
		some, more := x.Keys("", ""), x.Keys("", "")
		for i := range some[:cap(some)] {
			some[:cap(some)][i] = "spoilt"
		}
		if !slices.Equal(more, []string{"a", "b", "c"}) {
			t.Fatalf("Keys share memory: %q", more)
		}
		isAs(t, x, m)
		rev := x.Marks("a")[x.Len()-1].Rev + 1
		x.Put("a", put(rev))
		m.put("a", put(rev))
		x.Trim(rev - 2)
		m.trim(rev - 2)
		if !slices.Equal(two, []index.Mark{put(rev - 3), put(rev - 2), put(rev - 1)}) {
			t.Fatalf("what was answered changed: %v", two)
		}
		isAs(t, x, m)
	}
}

// TestP2KeysAreNotKept hands in a key that is a piece of a longer text, which would be kept with it.
func TestP2KeysAreNotKept(t *testing.T) {
	key := strings.Repeat("nightly", 1000)[:7]
	x := index.New()
	x.Put(key, put(1))
	isAs(t, x, model{"nightly": {put(1)}})
	if unsafe.StringData(x.Keys("", "")[0]) == unsafe.StringData(key) {
		t.Error("the key that was handed in is kept")
	}
}

func TestP7IndexesAreOfTheirOwn(t *testing.T) {
	x, y := index.New(), index.New()
	x.Put("a", put(1))
	y.Put("a", put(7))
	y.Put("b", put(8))
	x.Trim(9)
	isAs(t, x, model{"a": {put(1)}})
	isAs(t, y, model{"a": {put(7)}, "b": {put(8)}})
}
