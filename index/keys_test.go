package index_test

import (
	"math/rand"
	"slices"
	"strings"
	"testing"

	"horologe/index"
)

func TestP701KeysOfNone(t *testing.T) {
	for _, c := range [][2]string{{"", ""}, {"a", ""}, {"", "a"}, {"a", "b"}, {"b", "a"}, {"\xff", "\xff"}} {
		if got := index.New().Keys(c[0], c[1]); len(got) != 0 {
			t.Errorf("Keys(%q, %q): %q", c[0], c[1], got)
		}
	}
}

func TestP701KeysOfOne(t *testing.T) {
	x, _ := of(t, model{"b": {put(1)}})
	for _, c := range []struct {
		lo, hi string
		there  bool
	}{
		{"", "", true}, {"b", "", true}, {"a", "", true}, {"b\x00", "", false}, {"c", "", false}, {"", "b", false}, {"", "a", false}, {"", "b\x00", true}, {"", "c", true}, {"b", "b", false}, {"b", "b\x00", true}, {"b", "a", false}, {"c", "b", false}, {"a", "b", false}, {"a", "c", true}, {"c", "d", false},
	} {
		if got := slices.Contains(x.Keys(c.lo, c.hi), "b"); got != c.there {
			t.Errorf("Keys(%q, %q): %v", c.lo, c.hi, got)
		}
	}
}

// TestP701KeysThatAreFronts goes by keys that are fronts of one another and bytes that are no text.
func TestP701KeysThatAreFronts(t *testing.T) {
	all := []string{"\x00", "\x00\x00", " ", "A", "Z", "a", "a\x00", "a\x00b", "a\x01", "aa", "aaa", "aab", "ab", "b", "ba", "z", "~", "\x7f", "\x80", "\xc3", "ä", "é", "日本", "\xfe\xff", "\xff", "\xff\x00", "\xff\xff"}
	m := model{}
	for _, i := range rand.New(rand.NewSource(701)).Perm(len(all)) {
		m[all[i]] = append(m[all[i]], put(i+1))
	}
	x, _ := of(t, m)
	if !slices.Equal(x.Keys("", ""), all) {
		t.Fatalf("Keys: %q", x.Keys("", ""))
	}
	bounds := append([]string{"", "0", "a\x00a", "aaaa", "aac", "\xfe", "\xff\xff\xff", strings.Repeat("\xff", 300), strings.Repeat("a", 101)}, all...)
	for _, lo := range bounds {
		for _, hi := range bounds {
			if got, want := x.Keys(lo, hi), m.keys(lo, hi); !slices.Equal(got, want) {
				t.Errorf("Keys(%q, %q): %q, not %q", lo, hi, got, want)
			}
		}
	}
}

func TestP701KeysOfARange(t *testing.T) {
	x, _ := of(t, model{"a": {put(1)}, "c": {put(2), del(3)}, "e": {put(4)}, "g": {put(5)}})
	for _, c := range []struct{ lo, hi, want string }{
		{"", "", "aceg"}, {"", "a", ""}, {"", "b", "a"}, {"", "g", "ace"}, {"", "h", "aceg"},
		{"c", "", "ceg"}, {"d", "", "eg"}, {"g", "", "g"}, {"h", "", ""}, {"b", "", "ceg"},
		{"c", "e", "c"}, {"b", "f", "ce"}, {"c", "c", ""}, {"d", "d", ""}, {"d", "e", ""}, {"e", "c", ""}, {"g", "a", ""}, {"h", "z", ""}, {"a", "g", "ace"}, {"a", "a\x00", "a"}, {"a\x00", "c", ""},
	} {
		if got := strings.Join(x.Keys(c.lo, c.hi), ""); got != c.want {
			t.Errorf("Keys(%q, %q): %q, not %q", c.lo, c.hi, got, c.want)
		}
	}
}

// TestP701KeysOfMany asks for drawn ranges of some hundreds of keys.
func TestP701KeysOfMany(t *testing.T) {
	r := rand.New(rand.NewSource(7011))
	m := model{}
	for i := range 800 {
		key := drawnKey(r)
		if m[key] == nil {
			m[key] = []index.Mark{put(i + 1)}
		}
	}
	x, _ := of(t, m)
	isAs(t, x, m)
	for range 3000 {
		lo, hi := drawnKey(r), drawnKey(r)
		if r.Intn(8) == 0 {
			lo = ""
		}
		if r.Intn(8) == 0 {
			hi = ""
		}
		if got, want := x.Keys(lo, hi), m.keys(lo, hi); !slices.Equal(got, want) {
			t.Fatalf("Keys(%q, %q): %q, not %q", lo, hi, got, want)
		}
	}
}

// drawnKey draws a key of few kinds of bytes, so that many are equal or fronts of one another.
func drawnKey(r *rand.Rand) string {
	b := make([]byte, 1+r.Intn(5))
	for i := range b {
		b[i] = "\x00ab\xff"[r.Intn(4)]
	}
	return string(b)
}
