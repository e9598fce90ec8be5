package index_test

import (
	"fmt"
	"math"
	"slices"
	"testing"

	"horologe/api"
	"horologe/index"
)

func TestP702TrimOfMarks(t *testing.T) {
	l := []index.Mark{put(2), del(4), put(6), put(8), del(10)}
	there := []index.Mark{put(2), put(5), put(9)}
	for _, c := range []struct {
		have []index.Mark
		rev  int
		want []index.Mark
	}{
		{l, math.MinInt, l}, {l, -1, l}, {l, 0, l}, {l, 1, l}, {l, 2, l}, {l, 3, l}, {l, 4, l[2:]}, {l, 5, l[2:]}, {l, 6, l[2:]}, {l, 7, l[2:]}, {l, 8, l[3:]}, {l, 9, l[3:]}, {l, 10, nil}, {l, 11, nil}, {l, math.MaxInt, nil},
		{there, 1, there}, {there, 2, there}, {there, 4, there}, {there, 5, there[1:]}, {there, 8, there[1:]}, {there, 9, there[2:]}, {there, 10, there[2:]}, {there, math.MaxInt, there[2:]}, {there, math.MinInt, there},
		{there[:1], 1, there[:1]}, {there[:1], 2, there[:1]}, {there[:1], 3, there[:1]},
		{l[:2], 3, l[:2]}, {l[:2], 4, nil}, {l[:2], 5, nil},
		{[]index.Mark{put(1)}, 0, []index.Mark{put(1)}}, {[]index.Mark{put(math.MaxInt)}, math.MaxInt, []index.Mark{put(math.MaxInt)}}, {[]index.Mark{put(1), del(math.MaxInt)}, math.MaxInt - 1, []index.Mark{put(1), del(math.MaxInt)}}, {[]index.Mark{put(1), del(math.MaxInt)}, math.MaxInt, nil},
	} {
		x, m := of(t, model{"a": {put(1)}, "k": c.have, "z": {put(math.MaxInt)}})
		x.Trim(c.rev)
		if got := x.Marks("k"); !slices.Equal(got, c.want) {
			t.Errorf("%v: Trim(%d): %v, not %v", c.have, c.rev, got, c.want)
		}
		if m["k"] = c.want; len(c.want) == 0 {
			delete(m, "k")
		}
		isAs(t, x, m)
	}
}

func TestP702TrimOfNone(t *testing.T) {
	for _, rev := range []int{math.MinInt, -1, 0, 1, math.MaxInt} {
		x := index.New()
		x.Trim(rev)
		isAs(t, x, model{})
		if err := x.Put("a", put(1)); err != api.OK {
			t.Errorf("Put behind Trim(%d): %v", rev, err)
		}
		isAs(t, x, model{"a": {put(1)}})
	}
}

func TestP702Example(t *testing.T) {
	x, _ := of(t, model{"a": {put(1), del(3)}})
	x.Trim(3)
	isAs(t, x, model{})
}

func TestP702WhatIsGoneBeginsAnew(t *testing.T) {
	x, _ := of(t, model{"a": {put(4), del(7)}, "b": {put(4), del(7), put(9)}})
	x.Trim(7)
	for _, c := range []struct {
		key  string
		mark index.Mark
		want api.Errno
	}{{"a", del(8), api.ErrNone}, {"a", put(1), api.OK}, {"a", put(1), api.ErrGap}, {"b", put(8), api.ErrGap}, {"b", put(9), api.ErrGap}, {"b", del(10), api.OK}} {
		if err := x.Put(c.key, c.mark); err != c.want {
			t.Errorf("Put(%q, %v): %v, not %v", c.key, c.mark, err, c.want)
		}
	}
	isAs(t, x, model{"a": {put(1)}, "b": {put(9), del(10)}})
}

// TestP702KeysThatGo lets some of many keys go, and puts them again.
func TestP702KeysThatGo(t *testing.T) {
	const many = 300
	for name, goes := range map[string]func(i int) bool{
		"none": func(i int) bool { return false }, "all": func(i int) bool { return true }, "first": func(i int) bool { return i == 0 }, "last": func(i int) bool { return i == many-1 },
		"both ends": func(i int) bool { return i < 20 || i >= many-20 }, "front": func(i int) bool { return i < 200 }, "end": func(i int) bool { return i >= 100 }, "midst": func(i int) bool { return i >= 50 && i < 250 }, "one in the midst": func(i int) bool { return i == many/2 },
		"every other": func(i int) bool { return i%2 == 0 }, "all but every 7th": func(i int) bool { return i%7 > 0 }, "all but one": func(i int) bool { return i != 77 },
	} {
		t.Run(name, func(t *testing.T) {
			all := model{}
			for i := range many {
				key := fmt.Sprintf("%03d", i)
				if all[key] = []index.Mark{put(i + 1)}; goes(i) {
					all[key] = append(all[key], del(1000+i%5))
				}
			}
			x, m := of(t, all)
			for _, rev := range []int{999, 1000, 1002, 1001, 1004} {
				x.Trim(rev)
				m.trim(rev)
				isAs(t, x, m)
			}
			for key, l := range all {
				if got, want := x.Put(key, put(l[0].Rev)), m.put(key, put(l[0].Rev)); got != want {
					t.Fatalf("Put(%q) anew: %v, not %v", key, got, want)
				}
			}
			isAs(t, x, m)
			if x.Len() != many {
				t.Errorf("Len: %d", x.Len())
			}
		})
	}
}
