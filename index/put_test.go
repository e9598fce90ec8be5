package index_test

import (
	"math"
	"slices"
	"strings"
	"testing"

	"horologe/api"
	"horologe/index"
)

var (
	longest = strings.Repeat("k", api.MaxKey)
	tooLong = longest + "k"
)

func TestP701PutOfKeys(t *testing.T) {
	for _, c := range []struct {
		key  string
		want api.Errno
	}{
		{"", api.ErrArg}, {"a", api.OK}, {"\x00", api.OK}, {" ", api.OK}, {"\xff", api.OK}, {"\xc3\x28", api.OK}, {"a\x00", api.OK}, {"\n", api.OK},
		{longest[1:], api.OK}, {longest, api.OK}, {tooLong, api.ErrArg}, {tooLong + tooLong, api.ErrArg}, {strings.Repeat("\x00", 100), api.OK}, {strings.Repeat("\xff", 101), api.ErrArg},
		{strings.Repeat("ü", 50), api.OK}, {strings.Repeat("ü", 50) + "a", api.ErrArg}, {strings.Repeat("ü", 51), api.ErrArg},
	} {
		x, m := of(t, model{"other": {put(1)}})
		if err := x.Put(c.key, put(1)); err != c.want {
			t.Errorf("Put(%q): %v, not %v", c.key, err, c.want)
		}
		m.put(c.key, put(1))
		isAs(t, x, m)
	}
}

// TestP701PutOfMarks puts a mark to a key that has some: what is refused changes nothing.
func TestP701PutOfMarks(t *testing.T) {
	for _, c := range []struct {
		have []index.Mark
		mark index.Mark
		want api.Errno
	}{
		{nil, put(1), api.OK}, {nil, put(2), api.OK}, {nil, put(math.MaxInt), api.OK}, {nil, put(0), api.ErrArg}, {nil, put(-1), api.ErrArg}, {nil, put(math.MinInt), api.ErrArg},
		{nil, del(1), api.ErrNone}, {nil, del(math.MaxInt), api.ErrNone},
		{[]index.Mark{put(5)}, put(4), api.ErrGap}, {[]index.Mark{put(5)}, put(5), api.ErrGap}, {[]index.Mark{put(5)}, put(6), api.OK}, {[]index.Mark{put(5)}, put(1), api.ErrGap}, {[]index.Mark{put(5)}, put(math.MaxInt), api.OK},
		{[]index.Mark{put(5)}, del(4), api.ErrGap}, {[]index.Mark{put(5)}, del(5), api.ErrGap}, {[]index.Mark{put(5)}, del(6), api.OK},
		{[]index.Mark{put(math.MaxInt)}, put(math.MaxInt), api.ErrGap}, {[]index.Mark{put(math.MaxInt - 1)}, del(math.MaxInt), api.OK},
		{[]index.Mark{put(3), put(5)}, put(4), api.ErrGap}, {[]index.Mark{put(3), put(5)}, put(6), api.OK}, {[]index.Mark{put(3), put(5)}, del(6), api.OK},
		{[]index.Mark{put(3), del(5)}, put(5), api.ErrGap}, {[]index.Mark{put(3), del(5)}, put(4), api.ErrGap}, {[]index.Mark{put(3), del(5)}, put(6), api.OK}, {[]index.Mark{put(3), del(5)}, del(6), api.ErrNone}, {[]index.Mark{put(3), del(5)}, del(math.MaxInt), api.ErrNone},
		{[]index.Mark{put(3), del(5), put(7)}, del(8), api.OK}, {[]index.Mark{put(3), del(5), put(7)}, put(8), api.OK},
	} {
		x, m := of(t, model{"a": {put(9)}, "b": c.have, "c": {put(2), del(3)}})
		if err := x.Put("b", c.mark); err != c.want {
			t.Errorf("%v: Put(%v): %v, not %v", c.have, c.mark, err, c.want)
		}
		if c.want == api.OK {
			m["b"] = append(slices.Clone(c.have), c.mark)
		}
		isAs(t, x, m)
	}
}

func TestP701WhichErrorIsFirst(t *testing.T) {
	for _, c := range []struct {
		key  string
		mark index.Mark
		want api.Errno
	}{
		{"", put(0), api.ErrArg}, {"", del(1), api.ErrArg}, {"", del(-1), api.ErrArg}, {tooLong, del(1), api.ErrArg}, {tooLong, put(0), api.ErrArg},
		{"new", del(0), api.ErrArg}, {"there", put(0), api.ErrArg}, {"there", del(-3), api.ErrArg}, {"went", del(0), api.ErrArg}, {"went", del(math.MinInt), api.ErrArg}, {"went", put(0), api.ErrArg},
		{"went", del(5), api.ErrGap}, {"went", del(4), api.ErrGap}, {"went", del(1), api.ErrGap}, {"went", del(6), api.ErrNone},
	} {
		x, m := of(t, model{"there": {put(5)}, "went": {put(2), del(5)}})
		if err := x.Put(c.key, c.mark); err != c.want {
			t.Errorf("Put(%q, %v): %v, not %v", c.key, c.mark, err, c.want)
		}
		isAs(t, x, m)
	}
}

func TestP701KeysHaveMarksOfTheirOwn(t *testing.T) {
	x := index.New()
	for i, c := range []struct {
		key  string
		mark index.Mark
		want api.Errno
	}{
		{"b", put(9), api.OK}, {"a", put(3), api.OK}, {"bb", put(1), api.OK}, {"b", del(10), api.OK}, {"bb", del(2), api.OK}, {"a", put(4), api.OK}, {"b", put(10), api.ErrGap}, {"bb", put(3), api.OK}, {"ab", del(11), api.ErrNone},
	} {
		if err := x.Put(c.key, c.mark); err != c.want {
			t.Errorf("%d: Put(%q, %v): %v, not %v", i, c.key, c.mark, err, c.want)
		}
	}
	isAs(t, x, model{"a": {put(3), put(4)}, "b": {put(9), del(10)}, "bb": {put(1), del(2), put(3)}})
}

func TestP701Marks(t *testing.T) {
	x, _ := of(t, model{"a": {put(1), put(3), del(4), put(7)}, "gone": {put(2), del(4)}, "b": {put(5)}, longest: {put(6)}})
	x.Trim(4)
	for key, want := range map[string][]index.Mark{
		"a": {put(7)}, "b": {put(5)}, longest: {put(6)}, "gone": nil, "never": nil, "": nil, tooLong: nil, longest[1:]: nil, "a\x00": nil, "A": nil, "\xff": nil,
	} {
		if got := x.Marks(key); !slices.Equal(got, want) {
			t.Errorf("Marks(%q): %v, not %v", key, got, want)
		}
	}
	if got := index.New().Marks("a"); len(got) != 0 {
		t.Errorf("Marks of no keys: %v", got)
	}
}

func TestP701Len(t *testing.T) {
	x := index.New()
	is := func(want int) {
		t.Helper()
		if got := x.Len(); got != want {
			t.Errorf("Len: %d, not %d", got, want)
		}
	}
	is(0)
	x.Put("a", put(1))
	is(1)
	x.Put("a", put(2))
	is(1)
	x.Put("b", put(0))
	x.Put("b", del(3))
	is(1)
	x.Put("b", put(3))
	is(2)
	x.Put("a", del(4)) // its last mark is Del: it has marks
	is(2)
	x.Trim(3)
	is(2)
	x.Trim(4)
	is(1)
	x.Put("a", del(5))
	is(1)
	x.Put("a", put(1)) // it begins anew
	is(2)
	x.Put("a", del(5))
	x.Put("b", del(6))
	x.Trim(math.MaxInt)
	is(0)
	x.Put("b", put(1))
	is(1)
}
