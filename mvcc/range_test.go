package mvcc_test

import (
	"math"
	"strings"
	"testing"

	"horologe/api"
	"horologe/mvcc"
)

func TestP801ANewStore(t *testing.T) {
	s := mvcc.New()
	isAs(t, s, newModel())
	if s.Rev() != 0 || s.Compacted() != 0 {
		t.Errorf("Rev %d, Compacted %d", s.Rev(), s.Compacted())
	}
	for _, c := range []struct {
		lo, hi string
		rev    int
		want   api.Errno
	}{
		{"", "", 0, api.OK}, {"a", "", 0, api.OK}, {"", "a", 0, api.OK}, {"", beyond, 0, api.OK}, {"z", "a", 0, api.OK},
		{"a", "", 1, api.ErrFuture}, {"a", "", math.MaxInt, api.ErrFuture}, {"a", "", -1, api.ErrArg}, {"a", "", math.MinInt, api.ErrArg},
	} {
		if l, n, err := s.Range(c.lo, c.hi, c.rev, 0); len(l) != 0 || n != 0 || err != c.want {
			t.Errorf("Range(%q, %q, %d): %s, %d, %v", c.lo, c.hi, c.rev, told(l), n, err)
		}
	}
}

// some is a store whose keys were put, put again, deleted, created anew.
func some(t *testing.T) (*mvcc.Store, *model) {
	return of(t, []string{"a=1", "c=2@5"}, []string{"a=11"}, []string{"e=3", "-c"}, []string{"c=4", "a=111@9"}, []string{"-a:d"}, []string{"g=", "c=5"}, []string{"c=55"})
}

func TestP801KeysAsTheyWere(t *testing.T) {
	s, m := some(t)
	for rev, want := range []string{
		"c=55/6.7.2.0 e=3/3.3.1.0 g=/6.6.1.0",
		"a=1/1.1.1.0 c=2/1.1.1.5",
		"a=11/1.2.2.0 c=2/1.1.1.5",
		"a=11/1.2.2.0 e=3/3.3.1.0",
		"a=111/1.4.3.9 c=4/4.4.1.0 e=3/3.3.1.0",
		"e=3/3.3.1.0",
		"c=5/6.6.1.0 e=3/3.3.1.0 g=/6.6.1.0",
		"c=55/6.7.2.0 e=3/3.3.1.0 g=/6.6.1.0",
	} {
		if got := all(t, s, rev); got != want {
			t.Errorf("at %d: %s, not %s", rev, got, want)
		}
	}
	isAs(t, s, m)
}

func TestP801Revisions(t *testing.T) {
	for compacted := range 8 {
		s, m := some(t)
		if compacted > 0 && s.Compact(compacted) != m.compact(compacted) {
			t.Fatalf("Compact(%d)", compacted)
		}
		for rev, want := range map[int]api.Errno{math.MinInt: api.ErrArg, math.MinInt + 1: api.ErrArg, -2: api.ErrArg, -1: api.ErrArg, 8: api.ErrFuture, 9: api.ErrFuture, 1 << 62: api.ErrFuture, math.MaxInt: api.ErrFuture} {
			if l, n, err := s.Range("a", "z", rev, 0); len(l) != 0 || n != 0 || err != want {
				t.Errorf("compacted at %d: Range at %d: %s, %d, %v", compacted, rev, told(l), n, err)
			}
		}
		for rev := range 8 {
			want := api.OK
			if rev > 0 && rev < compacted {
				want = api.ErrPast
			}
			if _, _, err := s.Range("e", "", rev, 0); err != want {
				t.Errorf("compacted at %d: Range at %d: %v, not %v", compacted, rev, err, want)
			}
			rangesAs(t, s, m, "", beyond, rev, 0)
		}
	}
}

func TestP801Ranges(t *testing.T) {
	s, m := some(t)
	for _, c := range []struct{ lo, hi, want string }{
		{"", "", ""}, {"a", "", "a"}, {"b", "", ""}, {"c", "", "c"}, {"e", "", "e"}, {"g", "", ""}, {"\x00", "", ""}, {"a\x00", "", ""}, {"A", "", ""}, {beyond, "", ""},
		{"", "a", ""}, {"", "a\x00", "a"}, {"", "b", "a"}, {"", "c", "a"}, {"", "c\x00", "ac"}, {"", "z", "ace"}, {"", beyond, "ace"},
		{"a", "a", ""}, {"a", "a\x00", "a"}, {"a", "b", "a"}, {"a", "c", "a"}, {"a", "d", "ac"}, {"a", "e", "ac"}, {"a", "f", "ace"}, {"a\x00", "e", "c"}, {"b", "c", ""}, {"b", "d", "c"}, {"c", "c", ""}, {"d", "d", ""}, {"e", "z", "e"}, {"f", "z", ""},
		{"c", "a", ""}, {"e", "c", ""}, {"e", "\x00", ""}, {"z", "a", ""}, {beyond, "z", ""}, {beyond, beyond, ""},
	} {
		l, n, err := s.Range(c.lo, c.hi, 4, 0)
		got := ""
		for _, kv := range l {
			got += kv.Key
		}
		if got != c.want || n != len(c.want) || err != api.OK {
			t.Errorf("Range(%.30q, %.30q): %q, %d, %v, not %q", c.lo, c.hi, got, n, err, c.want)
		}
		for rev := range 8 {
			rangesAs(t, s, m, c.lo, c.hi, rev, 0)
		}
	}
}

func TestP801KeysThatAreFronts(t *testing.T) {
	keys := []string{"\x00", "\x00\x00", "a", "a\x00", "a\x00\x00", "a\x00b", "a\x01", "aa", "ab", "b", "ä", "\xfe\xff", "\xff", "\xff\x00", "\xff\xff", strings.Repeat("\xff", 100)}
	s, m := mvcc.New(), newModel()
	for i := range keys {
		do(t, s, m, keys[(i*7+3)%len(keys)]+"=x")
	}
	bounds := append([]string{"", "0", "a\x00\x00\x00", beyond, strings.Repeat("a", 5000)}, keys...)
	for _, lo := range bounds {
		for _, hi := range bounds {
			for rev := range len(keys) + 1 {
				rangesAs(t, s, m, lo, hi, rev, rev%4)
			}
		}
	}
}

func TestP801Limits(t *testing.T) {
	s, m := some(t)
	do(t, s, m, "a=7")
	for _, c := range []struct {
		limit int
		want  string
	}{
		{math.MinInt, "aceg"}, {-1, "aceg"}, {0, "aceg"}, {1, "a"}, {2, "ac"}, {3, "ace"}, {4, "aceg"}, {5, "aceg"}, {math.MaxInt, "aceg"},
	} {
		l, n, err := s.Range("a", "z", 0, c.limit)
		got := ""
		for _, kv := range l {
			got += kv.Key
		}
		if got != c.want || n != 4 || err != api.OK {
			t.Errorf("limit %d: %q, %d, %v", c.limit, got, n, err)
		}
		for rev := range 9 {
			rangesAs(t, s, m, "a", "z", rev, c.limit)
			rangesAs(t, s, m, "b", "f", rev, c.limit)
			rangesAs(t, s, m, "c", "", rev, c.limit)
			rangesAs(t, s, m, "z", "", rev, c.limit)
		}
	}
}
