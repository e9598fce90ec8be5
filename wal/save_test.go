package wal_test

import (
	"fmt"
	"slices"
	"testing"

	"horologe/api"
	"horologe/wal"
)

func TestP302TheChaptersExample(t *testing.T) {
	d, l := fresh(t)
	save(t, l, nil, en(1, 1))
	save(t, l, nil, en(1, 2), en(2, 2))
	says(t, "two entries", d, l, "{0 -1 0} 0/0[] 1/2/1=1.2 2/2/2=2.2")
}

func TestP302EntriesThenTheHardState(t *testing.T) {
	d, l := fresh(t)
	h := api.Hard{Term: 3, Vote: 1, Commit: 2}
	did(t, "an Append and a Sync", d, 2, func() { save(t, l, &h, en(1, 2), en(2, 3)) })
	want := string(rec(en(1, 2), en(2, 3), h))
	holds(t, "the first Save", d, map[string]string{"wal-00000001": want})
	says(t, "the first Save", d, l, "{3 1 2} 0/0[] 1/2/1=1.2 2/3/2=2.3")
	did(t, "entries alone", d, 2, func() { save(t, l, nil, en(3, 3)) })
	did(t, "a hard state alone", d, 2, func() { save(t, l, &api.Hard{Vote: -1}) })
	want += string(rec(en(3, 3), api.Hard{Vote: -1}))
	holds(t, "behind the newest file", d, map[string]string{"wal-00000001": want})
	says(t, "three Saves", d, l, "{0 -1 0} 0/0[] 1/2/1=1.2 2/3/2=2.3 3/3/0=3.3")
	if n := d.Crash(); n != 0 {
		t.Errorf("%d files were not synced", n)
	}
	holds(t, "behind a crash", d, map[string]string{"wal-00000001": want})
}

func TestP302EntriesTakeTheElderOnesPlace(t *testing.T) {
	for first := 1; first <= 7; first++ {
		for count := 1; count <= 5; count++ {
			d, l := fresh(t)
			save(t, l, nil, run(1, 6, 1)...)
			save(t, l, nil, run(first, first+count-1, 2)...)
			want := wal.State{Hard: api.Hard{Vote: -1}, Entries: slices.Concat(run(1, first-1, 1), run(first, first+count-1, 2))}
			says(t, fmt.Sprintf("%d from %d on", count, first), d, l, told(want))
		}
	}
}

func TestP302NothingToSave(t *testing.T) {
	d, l := fresh(t)
	nothing := func(what string) {
		did(t, what, d, 0, func() {
			save(t, l, nil)
			save(t, l, nil, []api.Entry{}...)
		})
	}
	nothing("no file")
	counts(t, "no file", l, 0)
	save(t, l, nil, en(1, 1))
	nothing("a file")
	l = opened(t, d)
	nothing("behind Open")
	save(t, l, nil, en(2, 1))
	names(t, "the first that saves something begins a file", d, "wal-00000001 wal-00000002")
	d.Stop(1)
	nothing("ahead of a stop")
	is(t, "the stop", l.Save(nil, en(3, 1)), api.ErrDead)
	nothing("behind it")
}

// refusal is a Save that is refused, of a log whose Meta is 3/1 and whose last entry is 5/1.
type refusal struct {
	what string
	h    *api.Hard
	e    []api.Entry
	want api.Errno
}

// like is an entry at 6 with something else in it.
func like(change func(*api.Entry)) api.Entry {
	e := en(6, 1)
	change(&e)
	return e
}

func refusals() []refusal {
	long := make([]byte, 65537)
	kind3, kindBelow := like(func(e *api.Entry) { e.Kind = 3 }), like(func(e *api.Entry) { e.Kind = -1 })
	longOne := like(func(e *api.Entry) { e.Data = long })
	longGap := api.Entry{Index: 8, Data: long}
	list := func(e ...api.Entry) []api.Entry { return e }
	return []refusal{
		{"Index 0", nil, list(en(0, 1)), api.ErrArg},
		{"Index below 0", nil, list(en(-1, 1)), api.ErrArg},
		{"Term below 0", nil, list(en(6, -1)), api.ErrArg},
		{"Kind 3", nil, list(kind3), api.ErrArg},
		{"Kind 256", nil, list(like(func(e *api.Entry) { e.Kind = 256 })), api.ErrArg},
		{"Kind below 0", nil, list(kindBelow), api.ErrArg},
		{"h's Term", &api.Hard{Term: -1}, nil, api.ErrArg},
		{"h's Vote", &api.Hard{Vote: -2}, nil, api.ErrArg},
		{"h's Commit", &api.Hard{Commit: -1}, nil, api.ErrArg},
		{"h's Term beside an entry", &api.Hard{Term: -1}, list(en(6, 1)), api.ErrArg},
		{"a second entry's Kind", nil, list(en(6, 1), like(func(e *api.Entry) { e.Index, e.Kind = 7, 3 })), api.ErrArg},
		{"a second entry's Index", nil, list(en(6, 1), en(0, 1)), api.ErrArg},
		{"a third entry's Term", nil, list(en(6, 1), en(7, 1), en(8, -1)), api.ErrArg},

		{"long", nil, list(longOne), api.ErrLong},
		{"a second one that is long", nil, list(en(6, 1), api.Entry{Index: 7, Data: long}), api.ErrLong},
		{"much longer", nil, list(api.Entry{Index: 6, Data: make([]byte, 1<<20)}), api.ErrLong},

		{"two behind the last one", nil, list(en(7, 1)), api.ErrGap},
		{"far behind it", nil, list(en(1<<62-1, 1)), api.ErrGap},
		{"at Meta", nil, list(en(3, 1)), api.ErrGap},
		{"ahead of Meta", nil, list(en(2, 1)), api.ErrGap},
		{"the first index", nil, list(en(1, 1)), api.ErrGap},
		{"ahead of Meta, and on beyond it", nil, run(1, 7, 1), api.ErrGap},
		{"one left out", nil, list(en(6, 1), en(8, 1)), api.ErrGap},
		{"one twice", nil, list(en(6, 1), en(6, 1)), api.ErrGap},
		{"falling", nil, list(en(6, 1), en(5, 1)), api.ErrGap},
		{"one left out later on", nil, list(en(4, 2), en(5, 2), en(6, 2), en(8, 2)), api.ErrGap},

		{"ErrArg ahead of ErrLong", nil, list(like(func(e *api.Entry) { e.Kind, e.Data = 3, long })), api.ErrArg},
		{"ErrArg ahead of ErrGap", nil, list(api.Entry{Index: 9, Kind: 3}), api.ErrArg},
		{"ErrArg ahead of both", nil, list(api.Entry{Index: 9, Term: -1, Data: long}), api.ErrArg},
		{"ErrLong ahead of ErrGap", nil, list(longGap), api.ErrLong},
		{"h's ErrArg ahead of ErrLong", &api.Hard{Term: -1}, list(longOne), api.ErrArg},
		{"h's ErrArg ahead of ErrGap", &api.Hard{Vote: -2}, list(en(8, 1)), api.ErrArg},
		{"h's ErrArg ahead of both", &api.Hard{Commit: -1}, list(longGap), api.ErrArg},
		{"a right h takes no error away", &api.Hard{Vote: -1}, list(en(8, 1)), api.ErrGap},
		{"P6: the first element's ErrLong", nil, list(longOne, like(func(e *api.Entry) { e.Index, e.Kind = 7, 3 })), api.ErrLong},
		{"P6: the first element's ErrGap", nil, list(en(7, 1), kind3), api.ErrGap},
		{"P6: the first element's ErrGap, then long", nil, list(en(3, 1), api.Entry{Index: 4, Data: long}), api.ErrGap},
		{"P6: the second element's ErrGap", nil, list(en(6, 1), en(8, 1), en(9, -1)), api.ErrGap},
		{"P6: the second element's ErrLong ahead of its ErrGap", nil, list(en(6, 1), longGap, kindBelow), api.ErrLong},
	}
}

func TestP302WhatIsRefused(t *testing.T) {
	d, l := fresh(t)
	save(t, l, &api.Hard{Term: 1, Vote: 0, Commit: 3}, run(1, 5, 1)...)
	cut(t, l, 3, 1, 0, 1)
	ahead, state := files(t, d), told(l.State())
	for _, c := range refusals() {
		did(t, c.what, d, 0, func() { is(t, c.what, l.Save(c.h, c.e...), c.want) })
		if got := told(l.State()); got != state {
			t.Fatalf("%s: %s, not %s", c.what, got, state)
		}
	}
	holds(t, "refused", d, ahead)
	d.Stop(1)
	d.Sync("wal-00000002")
	for _, c := range refusals() {
		is(t, c.what+", ahead of the disk's error", l.Save(c.h, c.e...), c.want)
	}
	d.Crash()
	save(t, l, nil, en(6, 1))
	counts(t, "refused ones begin no file", l, 1)
}

func TestP302WhatIsTakenAtTheEdges(t *testing.T) {
	for _, c := range []struct {
		what string
		h    *api.Hard
		e    []api.Entry
	}{
		{"the least h", &api.Hard{Term: 0, Vote: -1, Commit: 0}, nil},
		{"a great h", &api.Hard{Term: 1<<62 - 1, Vote: 1<<62 - 1, Commit: 1<<62 - 1}, nil},
		{"one behind the last one", nil, run(6, 6, 0)},
		{"at the last one", nil, run(5, 5, 0)},
		{"one behind Meta", nil, run(4, 4, 1<<62-1)},
		{"one behind Meta, and on beyond the last", nil, run(4, 20, 0)},
		{"no Data", nil, []api.Entry{{Index: 6, Kind: 2}}},
		{"65536 bytes", nil, []api.Entry{{Index: 6, Term: 7, Kind: 1, Data: make([]byte, 65536)}}},
		{"65536 bytes each", nil, []api.Entry{{Index: 6, Data: make([]byte, 65536)}, {Index: 7, Data: make([]byte, 65536)}}},
		{"terms that fall", nil, []api.Entry{en(6, 9), en(7, 2)}},
	} {
		d, l := fresh(t)
		save(t, l, &api.Hard{Term: 1, Vote: 0, Commit: 3}, run(1, 5, 1)...)
		cut(t, l, 3, 1, 0, 1)
		records := []any{}
		for _, e := range c.e {
			records = append(records, e)
		}
		if c.h != nil {
			records = append(records, *c.h)
		}
		want := saying(l.State(), records...)
		is(t, c.what, l.Save(c.h, c.e...), api.OK)
		says(t, c.what, d, l, told(want))
	}
}

func TestP302TheFirstSaveBehindOpen(t *testing.T) {
	d := made(t, 1<<20)
	for i := 1; i <= 12; i++ {
		l := opened(t, d)
		counts(t, "opened", l, i-1)
		save(t, l, nil, en(2*i-1, 1))
		counts(t, "the first Save", l, i)
		save(t, l, nil, en(2*i, 1))
		counts(t, "the second one", l, i)
		if b, err := d.Read(fmt.Sprintf("wal-%08d", i)); err != api.OK || string(b) != string(rec(en(2*i-1, 1), en(2*i, 1))) {
			t.Errorf("%d: %x, %v", i, b, err)
		}
	}
}

func TestP302ACutAheadOfTheFirstSave(t *testing.T) {
	d, l := fresh(t)
	save(t, l, nil, run(1, 3, 1)...)
	l = opened(t, d)
	cut(t, l, 2, 1)
	save(t, l, nil, en(4, 1))
	base := []any{meta(2, 1), api.Hard{Vote: -1}, en(3, 1)}
	holds(t, "behind the Cut's file", d, map[string]string{"wal-00000002": string(rec(append(base, en(4, 1))...))})
	says(t, "behind the Cut's file", d, l, "{0 -1 0} 2/1[] 3/1/0=3.1 4/1/1=4.1")
	l = opened(t, d)
	is(t, "a Cut that is refused", l.Cut(meta(1, 1)), api.ErrArg)
	save(t, l, nil, en(5, 1))
	names(t, "a Cut that is refused", d, "wal-00000002 wal-00000003")
}

func TestP302NumberedOneMoreThanTheNewest(t *testing.T) {
	d := made(t, 1<<20)
	lay(t, d, "wal-00000041", []byte("junk"))
	lay(t, d, "wal-00000007", rec(en(1, 1)))
	l := opened(t, d)
	save(t, l, nil, en(2, 1))
	names(t, "a file of junk has a number too", d, "wal-00000007 wal-00000041 wal-00000042")
	says(t, "behind junk", d, l, "{0 -1 0} 0/0[] 1/1/1=1.1 2/1/2=2.1")
}

// sized is an entry whose record has so many bytes.
func sized(index, size int) api.Entry {
	return api.Entry{Index: index, Term: 1, Data: make([]byte, size-30)}
}

func TestP302AFileThatReachesSegment(t *testing.T) {
	for _, c := range []struct {
		sizes []int
		want  int
	}{
		{[]int{4095, 30}, 1}, {[]int{4096, 30}, 2}, {[]int{4097, 30}, 2},
		{[]int{2048, 2047, 30}, 1}, {[]int{2048, 2048, 30}, 2}, {[]int{4095, 65536, 30}, 2},
		{[]int{4096, 4096, 4096}, 3}, {[]int{4096, 4095, 40, 40}, 3}, {[]int{5000, 5000, 100, 100}, 3},
	} {
		d, l := fresh(t)
		for i, size := range c.sizes {
			did(t, "an Append and a Sync", d, 2, func() { save(t, l, nil, sized(i+1, size)) })
		}
		counts(t, fmt.Sprint(c.sizes), l, c.want)
		if d.Crash() != 0 {
			t.Errorf("%v: not synced", c.sizes)
		}
		if s := l.State(); len(s.Entries) != len(c.sizes) || told(s) != told(opened(t, d).State()) {
			t.Errorf("%v: %s", c.sizes, told(opened(t, d).State()))
		}
	}
}

func TestP302OneSaveIsOfOneFile(t *testing.T) {
	d, l := fresh(t)
	save(t, l, &api.Hard{Term: 1}, sized(1, 4000), sized(2, 4000), sized(3, 4000))
	counts(t, "longer than a Segment", l, 1)
	if b, _ := d.Read("wal-00000001"); len(b) != 12033 {
		t.Errorf("%d bytes", len(b))
	}
}

func TestP302BehindACutThatReachesSegment(t *testing.T) {
	for _, c := range []struct{ size, want int }{{4095, 1}, {4096, 2}, {4097, 2}} {
		d, l := fresh(t)
		save(t, l, nil, en(1, 1), sized(2, c.size-26-33)) // a base without voters and a hard state have the other bytes
		cut(t, l, 1, 1)
		if d.Used() != c.size {
			t.Fatalf("%d bytes, not %d", d.Used(), c.size)
		}
		save(t, l, nil, en(3, 1))
		counts(t, fmt.Sprint(c.size), l, c.want)
		says(t, fmt.Sprint(c.size), d, l, told(l.State()))
	}
}

func TestP302AFullDisk(t *testing.T) {
	d := made(t, 200)
	l := opened(t, d)
	is(t, "the first Save", l.Save(&api.Hard{Term: 5}, sized(1, 168)), api.ErrFull)
	holds(t, "no file is made", d, nil)
	says(t, "nothing is saved", d, l, blank)
	save(t, l, nil, sized(1, 100))
	ahead, state := files(t, d), told(l.State())
	did(t, "the Append alone", d, 1, func() { is(t, "the second", l.Save(nil, sized(1, 60), sized(2, 41)), api.ErrFull) })
	holds(t, "nothing is saved", d, ahead)
	says(t, "nothing is saved", d, l, state)
	save(t, l, nil, sized(2, 100))
	holds(t, "what just finds room", d, map[string]string{"wal-00000001": string(rec(sized(1, 100), sized(2, 100)))})
	is(t, "a hard state", l.Save(&api.Hard{}), api.ErrFull)
}

func TestP302AFullDiskWhereAFileIsBegun(t *testing.T) {
	d := made(t, 5000)
	l := opened(t, d)
	save(t, l, nil, sized(1, 4096))
	is(t, "full", l.Save(nil, sized(2, 1000)), api.ErrFull)
	counts(t, "no file is made", l, 1)
	save(t, l, nil, sized(2, 900))
	names(t, "one is begun still", d, "wal-00000001 wal-00000002")
	l = opened(t, d)
	is(t, "full, behind Open", l.Save(nil, sized(3, 30)), api.ErrFull)
	says(t, "full, behind Open", d, l, told(l.State()))
	d = clone(t, d, 6000)
	l = opened(t, d)
	is(t, "full, behind Open", l.Save(nil, sized(3, 2000)), api.ErrFull)
	save(t, l, nil, sized(3, 50))
	counts(t, "one is begun still, behind Open", l, 3)
}

func TestP302TheDiskStopsAtEachOperation(t *testing.T) {
	for _, begun := range []bool{false, true} {
		d, l := fresh(t)
		save(t, l, nil, run(1, 3, 1)...)
		if begun {
			l = opened(t, d)
		}
		state := told(l.State())
		ahead := files(t, d)
		d.Stop(1)
		is(t, "the Append", l.Save(nil, en(4, 1)), api.ErrDead)
		is(t, "behind it", l.Save(nil, en(4, 1)), api.ErrDead)
		d.Crash()
		holds(t, "the Append is not done", d, ahead)
		says(t, "the Append is not done", d, l, state)
		d.Stop(2)
		is(t, "the Sync", l.Save(nil, en(4, 1)), api.ErrDead)
		is(t, "behind it", l.Save(&api.Hard{}), api.ErrDead)
		if d.Crash(20) != 1 {
			t.Error("the Append is not synced")
		}
		if got := told(opened(t, d).State()); got != state {
			t.Errorf("a piece of a record: %s, not %s", got, state)
		}
	}
}

func TestP302TheLastNumber(t *testing.T) {
	d := made(t, 1<<20)
	lay(t, d, "wal-99999998", rec(en(1, 1)))
	l := opened(t, d)
	save(t, l, nil, sized(2, 4096))
	names(t, "the last number", d, "wal-99999998 wal-99999999")
	ahead, state := files(t, d), told(l.State())
	for _, l := range []*wal.Log{l, opened(t, d)} {
		did(t, "no number is left", d, 0, func() {
			is(t, "Save", l.Save(nil, en(3, 1)), api.ErrFull)
			is(t, "Cut", l.Cut(meta(2, 1)), api.ErrFull)
		})
		holds(t, "no number is left", d, ahead)
		says(t, "no number is left", d, l, state)
	}
	d.Stop(1)
	d.Sync("a")
	is(t, "Save", l.Save(nil, en(3, 1)), api.ErrDead)
	is(t, "Cut", l.Cut(meta(2, 1)), api.ErrDead)
}
