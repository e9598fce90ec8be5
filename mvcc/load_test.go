package mvcc

import (
	"bytes"
	"fmt"
	"math"
	"slices"
	"strings"
	"testing"

	"horologe/api"
)

// raw is bytes that stand as they are.
type raw []byte

// body writes numbers and texts as Save does, without the sum.
func body(parts ...any) []byte {
	var b []byte
	for _, part := range parts {
		switch x := part.(type) {
		case int:
			b = appendNumber(b, x)
		case string:
			b = appendText(b, x)
		case raw:
			b = append(b, x...)
		}
	}
	return b
}

// sealed puts the right sum behind bytes.
func sealed(b []byte) []byte {
	sum := sumOf(b)
	return append(bytes.Clone(b), sum[:]...)
}

// taken tells whether Load takes bytes, which must then be those that Save tells.
func taken(t *testing.T, b []byte) bool {
	t.Helper()
	s, err := Load(b)
	switch {
	case err == api.OK && !bytes.Equal(s.Save(), b):
		t.Fatalf("%.200x was taken, but Save tells %.200x", b, s.Save())
	case err != api.OK && (err != api.ErrBad || s != nil):
		t.Fatalf("%.200x: %v, %v", b, s != nil, err)
	}
	return err == api.OK
}

func TestP804WhatIsNoStore(t *testing.T) {
	longest, largest := strings.Repeat("k", 100), strings.Repeat("v", 4096)
	for _, c := range []struct {
		what string
		b    []byte
		want bool
	}{
		{"none", body(0, 0, 0), true}, {"nothing", nil, false}, {"no number of keys", body(0), false}, {"no number of revisions", body(0, 0), false}, {"more behind", body(0, 0, 0, 0), false},
		{"a number that is longer than it must be", body(raw{0x80, 0x00}, 0, 0), false}, {"one in the midst", body(2, raw{0x81, 0x80, 0x00}, 0), false}, {"a number that does not end", body(0, 0, raw{0x80}), false}, {"one of ten bytes", body(0, 0, raw{0xFF, 0xFF, 0xFF, 0xFF, 0xFF, 0xFF, 0xFF, 0xFF, 0xFF, 0x01}), false},
		{"at 0 a key", body(0, 1, "a", "x", 0, 0, 1, 0, 0), false}, {"at 0 one of 1", body(0, 1, "a", "x", 1, 1, 1, 0, 0), false},
		{"at 1 no key", body(1, 0, 0), false}, {"at 1 one", body(1, 1, "a", "x", 1, 1, 1, 0, 0), true}, {"at 2 no key", body(2, 0, 0), true},
		{"at 2 one of 1", body(2, 1, "a", "x", 1, 1, 1, 0, 0), true}, {"of 2", body(2, 1, "a", "x", 2, 2, 1, 0, 0), true}, {"of both", body(2, 1, "a", "x", 1, 2, 2, 0, 0), true}, {"of 3", body(2, 1, "a", "x", 3, 3, 1, 0, 0), false}, {"put at 3", body(2, 1, "a", "x", 2, 3, 2, 0, 0), false},
		{"created at 0", body(2, 1, "a", "x", 0, 1, 2, 0, 0), false}, {"put ahead of that", body(2, 1, "a", "x", 2, 1, 1, 0, 0), false}, {"Version 0", body(2, 1, "a", "x", 1, 1, 0, 0, 0), false}, {"Version 2 at once", body(2, 1, "a", "x", 1, 1, 2, 0, 0), false}, {"Version 1 of two", body(2, 1, "a", "x", 1, 2, 1, 0, 0), false}, {"Version 3 of two", body(2, 1, "a", "x", 1, 2, 3, 0, 0), false},
		{"Version 2 of many", body(9, 1, "a", "x", 2, 8, 2, 0, 0), true}, {"Version 7", body(9, 1, "a", "x", 2, 8, 7, 0, 0), true}, {"Version 8", body(9, 1, "a", "x", 2, 8, 8, 0, 0), false},
		{"no key", body(1, 1, "", "x", 1, 1, 1, 0, 0), false}, {"the longest", body(1, 1, longest, largest, 1, 1, 1, math.MaxInt, 0), true}, {"too long", body(1, 1, longest+"k", "x", 1, 1, 1, 0, 0), false}, {"too long a value", body(1, 1, "a", largest+"v", 1, 1, 1, 0, 0), false},
		{"two", body(1, 2, "a", "x", 1, 1, 1, 0, "b", "y", 1, 1, 1, 0, 0), true}, {"two, falling", body(1, 2, "b", "x", 1, 1, 1, 0, "a", "y", 1, 1, 1, 0, 0), false}, {"one twice", body(1, 2, "a", "x", 1, 1, 1, 0, "a", "y", 1, 1, 1, 0, 0), false}, {"fewer than it says", body(1, 2, "a", "x", 1, 1, 1, 0, 0), false},
		{"a key that does not end", body(1, 1, 5, raw("abc")), false}, {"more keys than can be", body(1, math.MaxInt), false}, {"more bytes than can be", body(1, 1, math.MaxInt, raw("abc")), false},
		{"a revision", body(0, 0, 1, 1, 0, "a", "x", 7), true}, {"of none", body(0, 0, 1, 0), false}, {"that lacks", body(0, 0, 1), false}, {"more than can be", body(0, 0, math.MaxInt), false}, {"more changes than can be", body(0, 0, 1, math.MaxInt), false}, {"more changes than are there", body(0, 0, 1, 2, 0, "a", "x", 7), false}, {"one behind it", body(0, 0, 1, 1, 0, "a", "x", 7, 1, 0, "b", "x", 7), false},
		{"no such change", body(0, 0, 1, 1, 2, "a"), false}, {"a put of no key", body(0, 0, 1, 1, 0, "", "x", 0), false}, {"of too long a one", body(0, 0, 1, 1, 0, longest+"k", "x", 0), false}, {"of too long a value", body(0, 0, 1, 1, 0, "a", largest+"v", 0), false}, {"of the longest", body(0, 0, 1, 1, 0, longest, largest, math.MaxInt), true}, {"a put that does not end", body(0, 0, 1, 1, 0, "a", "x"), false},
		{"a deletion of none", body(0, 0, 1, 1, 1, "a"), false}, {"of no key", body(0, 0, 1, 1, 1, ""), false}, {"of what it put", body(0, 0, 1, 2, 0, "a", "x", 0, 1, "a"), false}, {"of what is there", body(0, 0, 2, 1, 0, "a", "x", 0, 1, 1, "a"), true}, {"of what went", body(0, 0, 3, 1, 0, "a", "x", 0, 1, 1, "a", 1, 1, "a"), false}, {"of the base", body(1, 1, "a", "x", 1, 1, 1, 0, 1, 1, 1, "a"), true}, {"of another", body(1, 1, "a", "x", 1, 1, 1, 0, 1, 1, 1, "b"), false}, {"a deletion that does not end", body(0, 0, 2, 1, 0, "a", "x", 0, 1, 1), false},
		{"twice in one", body(0, 0, 1, 2, 0, "a", "x", 0, 0, "a", "y", 0), false}, {"twice in two", body(0, 0, 2, 1, 0, "a", "x", 0, 1, 0, "a", "y", 0), true}, {"what went is put", body(0, 0, 2, 1, 0, "a", "x", 0, 2, 1, "a", 0, "a", "y", 0), false},
		{"a great revision", body(1<<62-1, 1, "a", "x", 1, 1<<62-1, 1<<62-1, 0, 0), true}, {"too great", body(1<<62, 1, "a", "x", 1, 1, 1, 0, 0), false}, {"the greatest", body(math.MaxInt, 0, 0), false}, {"great, and one more", body(1<<62-2, 0, 1, 1, 0, "a", "x", 0), true}, {"that is too great", body(1<<62-1, 0, 1, 1, 0, "a", "x", 0), false}, {"great, and too many", body(1<<62-2, 0, math.MaxInt), false},
	} {
		if got := taken(t, sealed(c.b)); got != c.want {
			t.Errorf("%s: %v", c.what, got)
		}
	}
}

// fullBody is a store of so many keys at rev: the first ones as told, the others created at full.
func fullBody(count, full, rev int, told ...[3]int) []byte {
	b := body(rev, count)
	for i := range count {
		n := [3]int{full, full, 1}
		if i < len(told) {
			n = told[i]
		}
		b = append(b, body(fmt.Sprintf("%05d", i), "", n[0], n[1], n[2], 0)...)
	}
	return append(b, 0)
}

func TestP804WhatIsNoFullStore(t *testing.T) {
	for i, c := range []struct {
		b    []byte
		want bool
	}{
		{fullBody(4096, 1, 1), true}, {fullBody(4097, 1, 1), false}, {fullBody(4096, 5, 5), true}, {fullBody(4097, 5, 6), false},
		{fullBody(4095, 1, 6), true},
		{fullBody(4096, 1, 2), false}, // nothing can have been done at 2
		{fullBody(4096, 1, 2, [3]int{1, 2, 2}), true},
		{fullBody(4096, 1, 3, [3]int{1, 2, 2}), false}, {fullBody(4096, 1, 3, [3]int{1, 3, 2}), false}, {fullBody(4096, 1, 3, [3]int{1, 3, 3}), true}, {fullBody(4096, 1, 3, [3]int{1, 3, 2}, [3]int{1, 2, 2}), true},
		{fullBody(4096, 2, 3, [3]int{1, 3, 2}), true}, {fullBody(4096, 2, 4, [3]int{1, 4, 2}), false}, {fullBody(4096, 2, 4, [3]int{1, 4, 3}), true}, {fullBody(4096, 2, 4, [3]int{2, 4, 3}), true}, {fullBody(4096, 2, 4, [3]int{1, 3, 3}, [3]int{1, 4, 2}), true},
		{fullBody(4096, 2, 6, [3]int{1, 4, 3}, [3]int{2, 6, 2}), false}, {fullBody(4096, 2, 6, [3]int{1, 4, 3}, [3]int{2, 6, 3}), true}, {fullBody(4096, 2, 6, [3]int{1, 4, 2}, [3]int{2, 6, 4}), true}, {fullBody(4096, 2, 6, [3]int{1, 4, 4}, [3]int{2, 6, 2}), false},
		{fullBody(4096, 1, 1<<62-1, [3]int{1, 1<<62 - 1, 1<<62 - 1}), true}, {fullBody(4096, 1, 1<<62-1, [3]int{1, 1<<62 - 1, 1<<62 - 2}), false}, {fullBody(4096, 1, 1<<62-1, [3]int{1, 1<<62 - 1, 1<<62 - 2}, [3]int{1, 1<<62 - 2, 2}), true},
		{fullBody(4096, 1, 1<<62-1, slices.Repeat([][3]int{{1, 1<<62 - 1, 1<<62 - 1}}, 4096)...), true},
	} {
		if got := taken(t, sealed(c.b)); got != c.want {
			t.Errorf("%d: %v", i, got)
		}
	}
	b := fullBody(4095, 1, 1)
	b = b[:len(b)-1]
	if !taken(t, sealed(append(bytes.Clone(b), body(1, 1, 0, "more", "", 0)...))) {
		t.Error("one key behind 4095")
	}
	if taken(t, sealed(append(bytes.Clone(b), body(1, 2, 0, "more", "", 0, 0, "most", "", 0)...))) || taken(t, sealed(append(bytes.Clone(b), body(2, 1, 0, "more", "", 0, 1, 0, "most", "", 0)...))) {
		t.Error("two keys behind 4095")
	}
	if !taken(t, sealed(append(bytes.Clone(b), body(1, 3, 0, "more", "", 0, 1, "00000", 0, "most", "", 0)...))) {
		t.Error("two keys behind 4095, one of which went")
	}
}

// small is a store of few keys: of each Create, Mod, Version; 0, if it is not there.
type small [3][3]int

func (s small) count() int {
	n := 0
	for _, k := range s {
		n += min(k[0], 1)
	}
	return n
}

// behind adds all that a write can make of s at a revision, where there is room for so many keys.
func (s small) behind(rev, room int, found map[small]bool) {
	for what := 1; what < 27; what++ { // of each key, in threes: nothing, a put, a deletion
		next, fits := s, true
		for i, rest := 0, what; i < 3; i, rest = i+1, rest/3 {
			switch {
			case rest%3 == 1 && s[i][0] == 0:
				next[i] = [3]int{rev, rev, 1}
			case rest%3 == 1:
				next[i] = [3]int{s[i][0], rev, s[i][2] + 1}
			case rest%3 == 2:
				fits = fits && s[i][0] > 0
				next[i] = [3]int{}
			}
		}
		if fits && next.count() <= room { // what goes goes first
			found[next] = true
		}
	}
}

// base tells the keys that are there.
func (s small) base() []api.KV {
	var l []api.KV
	for i, k := range s {
		if k != [3]int{} {
			l = append(l, api.KV{Key: string(rune('a' + i)), Create: k[0], Mod: k[1], Version: k[2]})
		}
	}
	return l
}

// TestP804WhichStoresCanBe makes all stores of a few revisions, with room for one key or two, and holds couldBe against what came out.
func TestP804WhichStoresCanBe(t *testing.T) {
	for room := 1; room <= 2; room++ {
		found := map[small]bool{{}: true}
		for rev := 1; rev <= 5; rev++ {
			next := map[small]bool{}
			for s := range found {
				s.behind(rev, room, next)
			}
			found = next
			var kinds [][3]int
			for i := range 7 * 7 * 7 {
				if k := [3]int{i / 49, i / 7 % 7, i % 7}; k[0]+k[1] <= 2*rev+1 {
					kinds = append(kinds, k)
				}
			}
			for _, a := range kinds {
				for _, b := range kinds {
					s := small{a, b}
					base := s.base()
					if len(base) > room {
						continue
					}
					got := couldBe(base, rev)
					if len(base) == room {
						got = got && couldBeFull(base, rev)
					}
					if got != found[s] {
						t.Fatalf("room %d, at %d: %v: %v, not %v", room, rev, s, got, found[s])
					}
				}
			}
		}
	}
}

// written is a store that has something of all.
func written() *Store {
	s := New()
	for _, l := range [][]string{{"+a", "+b", "+c"}, {"+a", "-b"}, {"+d", "-a"}, {"+a", "+b"}, {"-c", "+a"}} {
		w := s.Write()
		for _, op := range l {
			if op[0] == '+' {
				w.Put(op[1:], fmt.Sprint("v", s.Rev()), 130*s.Rev())
			} else {
				w.Delete(op[1:], "")
			}
		}
		w.Done()
	}
	return s
}

// TestP804BytesTurnedWithTheirSum: where the sum is made anew, what is turned is either another store's or refused.
func TestP804BytesTurnedWithTheirSum(t *testing.T) {
	for compacted := range 6 {
		s := written()
		s.Compact(compacted)
		b := s.Save()
		b = b[:len(b)-sumSize]
		others := 0
		for i := range b {
			for x := range 256 {
				c := bytes.Clone(b)
				c[i] = byte(x)
				if taken(t, sealed(c)) {
					others++
				}
			}
			if taken(t, sealed(b[:i])) || taken(t, sealed(b[i+1:])) {
				t.Errorf("compacted at %d: cut at %d", compacted, i)
			}
			if taken(t, sealed(append(bytes.Clone(b), b[:i+1]...))) {
				t.Errorf("compacted at %d: more behind", compacted)
			}
		}
		if others <= len(b) { // each byte is, once, what it was
			t.Errorf("compacted at %d: no other store was found", compacted)
		}
	}
}

// TestForgottenIsNotKept: what can't be told any more takes no room.
func TestForgottenIsNotKept(t *testing.T) {
	isTight := func(s *Store) {
		t.Helper()
		marks := 0
		for _, key := range s.index.Keys("", "") {
			marks += len(s.index.Marks(key))
		}
		if len(s.changes) != marks || len(s.log) != s.rev-s.compacted {
			t.Errorf("%d changes of %d marks, %d revisions of %d", len(s.changes), marks, len(s.log), s.rev-s.compacted)
		}
	}
	for compacted := range 6 {
		s := written()
		isTight(s)
		s.Compact(compacted)
		isTight(s)
		s.Compact(5)
		isTight(s)
		if len(s.changes) != 3 || len(s.there) != 3 {
			t.Errorf("%d changes, %d keys", len(s.changes), len(s.there))
		}
		x, _ := Load(s.Save())
		isTight(x)
	}
	s := written()
	w := s.Write()
	w.Delete("a", "z")
	w.Done()
	s.Compact(6)
	if isTight(s); len(s.changes)+len(s.there)+len(s.log)+s.index.Len() != 0 || s.open != nil {
		t.Error("something is kept")
	}
}

func FuzzLoad(f *testing.F) {
	for compacted := range 6 {
		s := written()
		s.Compact(compacted)
		b := s.Save()
		f.Add(b[:len(b)-sumSize])
	}
	f.Fuzz(func(t *testing.T, b []byte) {
		taken(t, sealed(b))
		taken(t, b)
	})
}
