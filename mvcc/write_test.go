package mvcc_test

import (
	"fmt"
	"math"
	"strings"
	"testing"

	"horologe/api"
	"horologe/mvcc"
)

func is(t *testing.T, what string, got, want any) {
	t.Helper()
	if got != want {
		t.Errorf("%s: %v, not %v", what, got, want)
	}
}

func TestP802Example(t *testing.T) {
	s := mvcc.New()
	for i, value := range []string{"one", "two"} {
		w := s.Write()
		is(t, "Put", w.Put("a", value, 0), api.OK)
		is(t, "Done", w.Done(), i+1)
	}
	is(t, "at 1", all(t, s, 1), "a=one/1.1.1.0")
	is(t, "at 2", all(t, s, 2), "a=two/1.2.2.0")
	w := s.Write()
	is(t, "Delete", w.Delete("a", ""), 1)
	is(t, "Done", w.Done(), 3)
	is(t, "at 3", all(t, s, 3), "")
}

func TestP802NothingIsDoneBeforeDone(t *testing.T) {
	s, m := some(t)
	before := string(s.Save())
	w := s.Write()
	isAs(t, s, m)
	w.Put("new", "x", 1)
	w.Put("e", "y", 2)
	isAs(t, s, m)
	w.Delete("a", "z")
	w.Range("a", "z", 0)
	isAs(t, s, m)
	is(t, "Save", string(s.Save()) == before, true)
	is(t, "Done", w.Done(), 8)
	is(t, "then", all(t, s, 0), "e=y/3.8.2.2 new=x/8.8.1.1")
}

func TestP802NothingChangedNoRevision(t *testing.T) {
	s, m := some(t)
	for name, call := range map[string]func(w *mvcc.Write){
		"nothing":           func(w *mvcc.Write) {},
		"a Range":           func(w *mvcc.Write) { w.Range("a", "z", 0) },
		"a Put, refused":    func(w *mvcc.Write) { w.Put("", "x", 0); w.Put("a", "", -1); w.Put("a", strings.Repeat("v", 4097), 0) },
		"a Delete of none":  func(w *mvcc.Write) { w.Delete("x", "z") },
		"of one that went":  func(w *mvcc.Write) { w.Delete("a", "") },
		"of no key":         func(w *mvcc.Write) { w.Delete("", "") },
		"of a range turned": func(w *mvcc.Write) { w.Delete("z", "a") },
	} {
		w := s.Write()
		call(w)
		is(t, name, w.Done(), 7)
		isAs(t, s, m)
	}
	do(t, s, m, "e=3") // it is put as it is: a change all the same
	is(t, "Rev", s.Rev(), 8)
	isAs(t, s, m)
}

func TestP802OneRevisionOfAll(t *testing.T) {
	s, m := some(t)
	do(t, s, m, "x=1", "-c", "y=2", "-e:h", "z=3")
	is(t, "Rev", s.Rev(), 8)
	isAs(t, s, m)
}

func TestP802ANewWriteForgetsAnElder(t *testing.T) {
	s, m := some(t)
	elder := s.Write()
	elder.Put("lost", "x", 0)
	elder.Delete("c", "")
	isAs(t, s, m)
	w := s.Write()
	is(t, "of the elder", w.Put("lost", "found", 0), api.OK)
	is(t, "of the elder", w.Delete("c", ""), 1)
	is(t, "Done", w.Done(), 8)
	is(t, "then", all(t, s, 0), "e=3/3.3.1.0 g=/6.6.1.0 lost=found/8.8.1.0")
	elder = s.Write()
	elder.Put("lost", "again", 0)
	is(t, "of none", s.Write().Done(), 8)
	is(t, "then", all(t, s, 0), "e=3/3.3.1.0 g=/6.6.1.0 lost=found/8.8.1.0")
}

// TestP1WritesThatAreOver: P8 leaves open what they answer, but the calls end, and the write that is open goes on.
func TestP1WritesThatAreOver(t *testing.T) {
	s, _ := some(t)
	over := []*mvcc.Write{s.Write(), s.Write(), {}} // forgotten, done, of no store
	over[0].Put("x", "1", 0)
	over[1].Put("y", "2", 0)
	over[1].Done()
	w := s.Write()
	for _, o := range over {
		o.Put("e", "3", 0)
		o.Put("p", "4", 0)
		o.Put("", "", -1)
		o.Delete("a", "z")
		o.Range("a", "z", 0)
		o.Done()
	}
	is(t, "Rev", s.Rev(), 8)
	is(t, "Put", w.Put("e", "5", 0), api.OK)
	is(t, "Done", w.Done(), 9)
	is(t, "then", all(t, s, 0), "c=55/6.7.2.0 e=5/3.9.2.0 g=/6.6.1.0 y=2/8.8.1.0")
}

func TestP802PutOfKeysAndValues(t *testing.T) {
	longest, largest := strings.Repeat("k", 100), strings.Repeat("v", 4096)
	for _, c := range []struct {
		key, value string
		lease      int
		want       api.Errno
	}{
		{"", "x", 0, api.ErrArg}, {"k", "x", 0, api.OK}, {longest, "x", 0, api.OK}, {longest + "k", "x", 0, api.ErrArg}, {longest + longest, "x", 0, api.ErrArg}, {strings.Repeat("ü", 50), "", 0, api.OK}, {strings.Repeat("ü", 51), "", 0, api.ErrArg},
		{"\x00", "\x00", 0, api.OK}, {"\xff\xfe", "\xff", 0, api.OK}, {" ", "\n", 0, api.OK},
		{"k", "", 0, api.OK}, {"k", largest, 0, api.OK}, {"k", largest + "v", 0, api.ErrLong}, {"k", largest + largest, 0, api.ErrLong},
		{"k", "x", 1, api.OK}, {"k", "x", 1 << 40, api.OK}, {"k", "x", math.MaxInt, api.OK}, {"k", "x", -1, api.ErrArg}, {"k", "x", math.MinInt, api.ErrArg},
		{"", largest + "v", -1, api.ErrArg}, {"", largest + "v", 0, api.ErrArg}, {"k", largest + "v", -1, api.ErrArg}, {longest + "k", "", -1, api.ErrArg},
		{"put", "x", 0, api.ErrTwice}, {"went", "x", 0, api.ErrTwice}, {"was", "x", 0, api.ErrTwice}, {"put", "x", -1, api.ErrArg}, {"went", largest + "v", 0, api.ErrLong}, {"left", "x", 0, api.OK},
	} {
		s, m := of(t, []string{"went=1", "left=2", "was=3"}, []string{"was=4"})
		w, v := s.Write(), m.write()
		is(t, "Put", w.Put("put", "1", 1), v.put("put", "1", 1))
		is(t, "Put", w.Put("was", "5", 1), v.put("was", "5", 1))
		is(t, "Delete", w.Delete("went", ""), v.delete("went", ""))
		is(t, fmt.Sprintf("Put(%.20q, %d bytes, %d)", c.key, len(c.value), c.lease), w.Put(c.key, c.value, c.lease), c.want)
		is(t, "the model", v.put(c.key, c.value, c.lease), c.want)
		is(t, "Done", w.Done(), v.done())
		isAs(t, s, m)
	}
}

// full makes a store of MaxKeys keys, k0000 to k4095.
func full(t *testing.T) *mvcc.Store {
	t.Helper()
	s := mvcc.New()
	w := s.Write()
	for i := range api.MaxKeys {
		if i == 2000 { // two revisions, so that a write begins with many
			is(t, "Done", w.Done(), 1)
			w = s.Write()
		}
		if err := w.Put(fmt.Sprintf("k%04d", i), "v", 0); err != api.OK {
			t.Fatalf("%d: %v", i, err)
		}
	}
	is(t, "one more", w.Put("more", "", 0), api.ErrFull)
	is(t, "Done", w.Done(), 2)
	return s
}

func TestP802AFullStore(t *testing.T) {
	s := full(t)
	w := s.Write()
	is(t, "a new one", w.Put("more", "", 0), api.ErrFull)
	is(t, "no key", w.Put("", "", 0), api.ErrArg)
	is(t, "too long a value", w.Put("more", strings.Repeat("v", 4097), 0), api.ErrLong)
	is(t, "one that is there", w.Put("k0000", "new", 0), api.OK)
	is(t, "it again", w.Put("k0000", "new", 0), api.ErrTwice)
	is(t, "a new one", w.Put("more", "", 0), api.ErrFull)
	is(t, "of those it changed", w.Delete("k0000", ""), 0)
	is(t, "a new one", w.Put("more", "", 0), api.ErrFull)
	is(t, "two go", w.Delete("k0000", "k0003"), 2)
	is(t, "one that went", w.Put("k0001", "", 0), api.ErrTwice)
	is(t, "a new one", w.Put("more", "", 0), api.OK)
	is(t, "another", w.Put("most", "", 0), api.OK)
	is(t, "a third", w.Put("much", "", 0), api.ErrFull)
	is(t, "one that went, and there is no room", w.Put("k0001", "", 0), api.ErrTwice)
	if _, n := w.Range("", beyond, 1); n != api.MaxKeys {
		t.Errorf("Range within it: %d", n)
	}
	is(t, "Done", w.Done(), 3)
	w = s.Write()
	is(t, "a new one", w.Put("k0001", "", 0), api.ErrFull)
	is(t, "all go", w.Delete("", beyond), api.MaxKeys)
	is(t, "a new one", w.Put("k0001", "", 0), api.OK)
	is(t, "Done", w.Done(), 4)
	is(t, "then", all(t, s, 0), "k0001=/4.4.1.0")
}

func TestP802AWriteThatIsForgottenTakesNoRoom(t *testing.T) {
	s := full(t)
	is(t, "of the elder", s.Write().Delete("k0000", "k0100"), 100)
	w := s.Write()
	is(t, "a new one", w.Put("more", "", 0), api.ErrFull)
	is(t, "one goes", w.Delete("k4095", ""), 1)
	is(t, "Done", w.Done(), 3)
	w = s.Write()
	is(t, "a new one", w.Put("more", "", 0), api.OK)
	w = s.Write()
	is(t, "it again", w.Put("more", "", 0), api.OK)
	is(t, "another", w.Put("most", "", 0), api.ErrFull)
}

func TestP802Delete(t *testing.T) {
	for _, c := range []struct {
		lo, hi string
		want   int
		left   string
	}{
		{"", "", 0, "bdfhj"}, {"b", "", 0, "bdfhj"}, {"d", "", 1, "bfhj"}, {"c", "", 0, "bdfhj"}, {"f", "", 0, "bdfhj"}, {"n", "", 0, "bdfhj"}, {"went", "", 0, "bdfhj"},
		{"d", "d", 0, "bdfhj"}, {"d", "d\x00", 1, "bfhj"}, {"d", "h", 1, "bfhj"}, {"d", "i", 2, "bfj"}, {"", "d", 0, "bdfhj"}, {"", "e", 1, "bfhj"}, {"a", "z", 3, "bf"}, {"", beyond, 3, "bf"}, {"g", "z", 2, "bdf"}, {"k", "z", 0, "bdfhj"}, {"z", "a", 0, "bdfhj"}, {"h", "d", 0, "bdfhj"},
	} {
		s, m := of(t, []string{"b=1", "d=2", "went=3"}, []string{"h=4", "j=5", "n=6"}, []string{"-went"})
		w, v := s.Write(), m.write()
		w.Put("b", "new", 0) // changed, and in its place
		v.put("b", "new", 0)
		w.Put("f", "new", 0) // new
		v.put("f", "new", 0)
		w.Delete("n", "") // gone
		v.delete("n", "")
		what := fmt.Sprintf("Delete(%.10q, %.10q)", c.lo, c.hi)
		is(t, what, w.Delete(c.lo, c.hi), c.want)
		is(t, what+", the model's", v.delete(c.lo, c.hi), c.want)
		is(t, what+", again", w.Delete(c.lo, c.hi), 0)
		is(t, "Done", w.Done(), v.done())
		got := ""
		l, _, _ := s.Range("", beyond, 0, 0)
		for _, kv := range l {
			got += kv.Key
		}
		is(t, what+", then", got, c.left)
		isAs(t, s, m)
	}
}

func TestP802WhatWentIsCreatedAnew(t *testing.T) {
	s, m := of(t, []string{"a=1"}, []string{"a=2"}, []string{"a=3@3"}, []string{"-a"}, []string{"b=1"}, []string{"a=4"}, []string{"a=5"})
	is(t, "at 3", all(t, s, 3), "a=3/1.3.3.3")
	is(t, "at 4", all(t, s, 4), "")
	is(t, "at 6", all(t, s, 6), "a=4/6.6.1.0 b=1/5.5.1.0")
	is(t, "at 7", all(t, s, 7), "a=5/6.7.2.0 b=1/5.5.1.0")
	isAs(t, s, m)
}

// within asks a write for a range, all of it and with limits.
func within(t *testing.T, w *mvcc.Write, lo, hi, want string) {
	t.Helper()
	l, n := w.Range(lo, hi, 0)
	if told(l) != want || n != len(l) {
		t.Fatalf("Range(%q, %q): %s, %d; not %s", lo, hi, told(l), n, want)
	}
	for _, limit := range []int{math.MinInt, -1, 1, 2, n, n + 1, math.MaxInt} {
		some, all := w.Range(lo, hi, limit)
		wantSome, wantAll := first(l, limit)
		if told(some) != told(wantSome) || all != wantAll {
			t.Fatalf("Range(%q, %q, %d): %s, %d", lo, hi, limit, told(some), all)
		}
	}
}

func TestP802RangeWithinAWrite(t *testing.T) {
	s, _ := of(t, []string{"b=1", "d=2", "f=3@3"}, []string{"d=4", "h=5"}, []string{"-h"})
	w := s.Write()
	within(t, w, "a", "z", "b=1/1.1.1.0 d=4/1.2.2.0 f=3/1.1.1.3")
	within(t, w, "", "", "")
	within(t, w, "h", "", "")
	w.Put("g", "new", 7)
	within(t, w, "a", "z", "b=1/1.1.1.0 d=4/1.2.2.0 f=3/1.1.1.3 g=new/4.4.1.7")
	within(t, w, "g", "", "g=new/4.4.1.7")
	w.Put("d", "again", 0)
	within(t, w, "d", "", "d=again/1.4.3.0")
	within(t, w, "d", "g", "d=again/1.4.3.0 f=3/1.1.1.3")
	w.Put("h", "anew", 0)
	within(t, w, "g", "i", "g=new/4.4.1.7 h=anew/4.4.1.0")
	w.Delete("", beyond)
	within(t, w, "a", "z", "d=again/1.4.3.0 g=new/4.4.1.7 h=anew/4.4.1.0")
	within(t, w, "b", "", "")
	within(t, w, "z", "a", "")
	within(t, w, "d", "d", "")
	within(t, w, "g", "h", "g=new/4.4.1.7")
	w.Put("a", "", 0)
	w.Put("\x00", "", 0)
	w.Put("b", "", 0) // refused: it went
	within(t, w, "", beyond, "\x00=/4.4.1.0 a=/4.4.1.0 d=again/1.4.3.0 g=new/4.4.1.7 h=anew/4.4.1.0")
	within(t, w, "", "b", "\x00=/4.4.1.0 a=/4.4.1.0")
	want := "\x00=/4.4.1.0 a=/4.4.1.0 d=again/1.4.3.0 g=new/4.4.1.7 h=anew/4.4.1.0"
	is(t, "Done", w.Done(), 4)
	is(t, "as they will be", all(t, s, 0), want)
}

func TestP802CompactWithinAWrite(t *testing.T) {
	s, m := some(t)
	w, v := s.Write(), m.write()
	is(t, "Put", w.Put("e", "x", 0), v.put("e", "x", 0))
	is(t, "Compact", s.Compact(7), m.compact(7))
	is(t, "Delete", w.Delete("a", "z"), v.delete("a", "z"))
	is(t, "Put", w.Put("a", "y", 0), v.put("a", "y", 0))
	within(t, w, "a", "z", "a=y/8.8.1.0 e=x/3.8.2.0")
	is(t, "Done", w.Done(), v.done())
	isAs(t, s, m)
}
