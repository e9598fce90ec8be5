package wal_test

import (
	"fmt"
	"math"
	"testing"

	"horologe/api"
	"horologe/disk"
	"horologe/wal"
)

// based tells a log of Meta 3/1 with entries 4/1, 5/2, 6/2, in one file.
func based(t *testing.T) (*disk.Disk, *wal.Log) {
	t.Helper()
	d, l := fresh(t)
	save(t, l, &api.Hard{Term: 2, Vote: 1, Commit: 4}, en(1, 1), en(2, 1), en(3, 1), en(4, 1), en(5, 2), en(6, 2))
	cut(t, l, 3, 1, 0, 1)
	return d, l
}

func TestP303WhereItIsCut(t *testing.T) {
	for _, c := range []struct {
		what string
		m    api.Meta
		want string
	}{
		{"at Meta, as it was", meta(3, 1, 0, 1), "{2 1 4} 3/1[0 1] 4/1/1=4.1 5/2/2=5.2 6/2/0=6.2"},
		{"at Meta, other voters", meta(3, 1, 5), "{2 1 4} 3/1[5] 4/1/1=4.1 5/2/2=5.2 6/2/0=6.2"},
		{"at Meta, another term", meta(3, 2), "{2 1 4} 3/2[]"},
		{"at an entry", meta(5, 2), "{2 1 4} 5/2[] 6/2/0=6.2"},
		{"at an entry, a lesser term", meta(5, 1), "{2 1 4} 5/1[]"},
		{"at an entry, a greater term", meta(5, 3), "{2 1 4} 5/3[]"},
		{"at the first entry", meta(4, 1, 9), "{2 1 4} 4/1[9] 5/2/2=5.2 6/2/0=6.2"},
		{"at the last entry", meta(6, 2), "{2 1 4} 6/2[]"},
		{"at the last entry, another term", meta(6, 0), "{2 1 4} 6/0[]"},
		{"one beyond it", meta(7, 2), "{2 1 4} 7/2[]"},
		{"far beyond it", meta(1<<62-1, 1<<62-1), fmt.Sprintf("{2 1 4} %d/%d[]", 1<<62-1, 1<<62-1)},
		{"seven voters", meta(4, 1, 9, 8, 7, -6, 5, 5, 5), "{2 1 4} 4/1[9 8 7 -6 5 5 5] 5/2/2=5.2 6/2/0=6.2"},
	} {
		d, l := based(t)
		is(t, c.what, l.Cut(c.m), api.OK)
		says(t, c.what, d, l, c.want)
		names(t, c.what, d, "wal-00000003")
		if d.Crash() != 0 {
			t.Errorf("%s: not synced", c.what)
		}
		says(t, c.what+", behind a crash", d, l, c.want)
	}
}

func TestP303WhatIsRefused(t *testing.T) {
	d, l := based(t)
	ahead, state := files(t, d), told(l.State())
	many := make([]int, 100)
	wrong := []api.Meta{
		{}, meta(2, 1), meta(1, 1), meta(0, 0), meta(-1, 1), meta(math.MinInt, 1), meta(3, -1), meta(5, -1), meta(5, math.MinInt), meta(5, 2, many[:8]...), meta(5, 2, many...), meta(2, -1, many...),
	}
	refused := func() {
		for _, m := range wrong {
			is(t, fmt.Sprint(m), l.Cut(m), api.ErrArg)
		}
	}
	did(t, "refused", d, 0, refused)
	holds(t, "refused", d, ahead)
	says(t, "refused", d, l, state)
	d.Stop(1)
	d.Sync("a")
	refused() // ahead of the disk's error
}

func TestP303IndexBelowOne(t *testing.T) {
	d, l := fresh(t)
	for _, m := range []api.Meta{{}, meta(0, 0, 1), meta(0, 1), meta(-1, 0)} {
		is(t, fmt.Sprint(m), l.Cut(m), api.ErrArg)
	}
	holds(t, "refused", d, nil)
	cut(t, l, 1, 0)
	says(t, "the least", d, l, "{0 -1 0} 1/0[]")
}

func TestP303TheFileThatItBegins(t *testing.T) {
	d, l := fresh(t)
	h := api.Hard{Term: 2, Vote: 1, Commit: 4}
	save(t, l, &h, run(1, 4, 1)...)
	did(t, "Append, Sync, Rename, Remove", d, 4, func() { cut(t, l, 2, 1, 6, 5) })
	holds(t, "base, hard state, entries", d, map[string]string{"wal-00000002": string(rec(meta(2, 1, 6, 5), h, en(3, 1), en(4, 1)))})
	lay(t, d, "wal.new", []byte("left lying"))
	did(t, "a Remove ahead", d, 5, func() { cut(t, l, 9, 9) })
	holds(t, "no entries", d, map[string]string{"wal-00000003": string(rec(meta(9, 9), h))})
}

func TestP303ALogWithoutFiles(t *testing.T) {
	d, l := fresh(t)
	did(t, "Append, Sync, Rename", d, 3, func() { cut(t, l, 7, 3, 1) })
	holds(t, "the first file", d, map[string]string{"wal-00000001": string(rec(meta(7, 3, 1), api.Hard{Vote: -1}))})
	says(t, "the first file", d, l, "{0 -1 0} 7/3[1]")
	counts(t, "the first file", l, 1)
}

func TestP303SavesBehindIt(t *testing.T) {
	d, l := based(t)
	for _, e := range []api.Entry{en(3, 1), en(2, 1), en(1, 1), en(8, 1)} {
		is(t, "a gap", l.Save(nil, e), api.ErrGap)
	}
	save(t, l, nil, en(7, 2))
	save(t, l, nil, en(4, 3))
	says(t, "in the same file", d, l, "{2 1 4} 3/1[0 1] 4/3/1=4.3")
	counts(t, "in the same file", l, 1)
	cut(t, l, 20, 4)
	is(t, "a gap", l.Save(nil, en(5, 4)), api.ErrGap)
	is(t, "a gap", l.Save(nil, en(20, 4)), api.ErrGap)
	is(t, "a gap", l.Save(nil, en(22, 4)), api.ErrGap)
	save(t, l, nil, en(21, 4))
	says(t, "beyond the last entry", d, l, "{2 1 4} 20/4[] 21/4/0=21.4")
}

// many tells a log of five files and others beside them.
func many(t *testing.T) (*disk.Disk, *wal.Log) {
	t.Helper()
	d := made(t, 1<<20)
	lay(t, d, "wal-00000003", []byte("junk"))
	lay(t, d, "wal-00000008", nil)
	lay(t, d, "wal-00000009", rec(en(1, 1)))
	lay(t, d, "wal-00000010", rec(en(2, 1)))
	lay(t, d, "wal.new", []byte("left lying"))
	lay(t, d, "a", []byte("a stranger"))
	l := opened(t, d)
	save(t, l, nil, en(3, 1))
	return d, l
}

func TestP303TheDiskStopsAtEachOperation(t *testing.T) {
	elder, newer := told(saying(start(), en(1, 1), en(2, 1), en(3, 1))), "{0 -1 0} 2/1[4] 3/1/0=3.1"
	for i, c := range []struct{ want, names string }{
		{elder, "a wal-00000003 wal-00000008 wal-00000009 wal-00000010 wal-00000011 wal.new"},
		{elder, "a wal-00000003 wal-00000008 wal-00000009 wal-00000010 wal-00000011"},
		{elder, "a wal-00000003 wal-00000008 wal-00000009 wal-00000010 wal-00000011 wal.new"},
		{elder, "a wal-00000003 wal-00000008 wal-00000009 wal-00000010 wal-00000011 wal.new"},
		{newer, "a wal-00000003 wal-00000008 wal-00000009 wal-00000010 wal-00000011 wal-00000012"},
		{newer, "a wal-00000008 wal-00000009 wal-00000010 wal-00000011 wal-00000012"},
		{newer, "a wal-00000009 wal-00000010 wal-00000011 wal-00000012"},
		{newer, "a wal-00000010 wal-00000011 wal-00000012"},
		{newer, "a wal-00000011 wal-00000012"},
	} {
		d, l := many(t)
		d.Stop(i + 1)
		is(t, "Cut", l.Cut(meta(2, 1, 4)), api.ErrDead)
		if got := told(l.State()); got != c.want {
			t.Errorf("stopped at %d: %s, not %s", i+1, got, c.want)
		}
		counts(t, "stopped", l, 0)
		is(t, "another Cut", l.Cut(meta(2, 1, 4)), api.ErrDead)
		is(t, "a Save", l.Save(nil, en(4, 1)), api.ErrDead)
		d.Crash()
		names(t, fmt.Sprintf("stopped at %d", i+1), d, c.names)
		says(t, fmt.Sprintf("stopped at %d", i+1), d, l, c.want)
	}
	d, l := many(t)
	d.Stop(10)
	did(t, "all of them", d, 9, func() { cut(t, l, 2, 1, 4) })
	names(t, "all of them", d, "a wal-00000012")
	says(t, "all of them", d, l, newer)
}

func TestP303ItGoesOnBehindAStop(t *testing.T) {
	for stop := 1; stop <= 9; stop++ {
		d, l := many(t)
		d.Stop(stop)
		is(t, "Cut", l.Cut(meta(2, 1, 4)), api.ErrDead)
		d.Crash(5, 5)
		save(t, l, nil, en(4, 1))
		says(t, fmt.Sprintf("a Save, stopped at %d", stop), d, l, told(l.State()))
		cut(t, l, 3, 1)
		says(t, fmt.Sprintf("a Cut, stopped at %d", stop), d, l, "{0 -1 0} 3/1[] 4/1/1=4.1")
		counts(t, fmt.Sprintf("a Cut, stopped at %d", stop), l, 1)
	}
}

func TestP303AFullDisk(t *testing.T) {
	size := len(rec(meta(2, 1), api.Hard{Vote: -1}, en(3, 1)))
	for _, c := range []struct {
		room int
		want api.Errno
	}{{size - 1, api.ErrFull}, {0, api.ErrFull}, {size, api.OK}} {
		whole, l := fresh(t)
		save(t, l, nil, run(1, 3, 1)...)
		d := clone(t, whole, whole.Used()+c.room)
		l = opened(t, d)
		if c.room > 0 {
			lay(t, d, "wal.new", make([]byte, c.room))
		}
		is(t, "Cut", l.Cut(meta(2, 1)), c.want)
		if c.want != api.OK {
			holds(t, "full", d, files(t, whole))
			says(t, "full", d, l, told(saying(start(), en(1, 1), en(2, 1), en(3, 1))))
			continue
		}
		says(t, "what just finds room", d, l, "{0 -1 0} 2/1[] 3/1/0=3.1")
	}
}

func TestP303AFullDiskLeavesTheFirstSaveItsFile(t *testing.T) {
	whole, l := fresh(t)
	save(t, l, nil, run(1, 3, 1)...)
	d := clone(t, whole, whole.Used()+40)
	l = opened(t, d)
	is(t, "Cut", l.Cut(meta(2, 1)), api.ErrFull)
	save(t, l, nil, en(4, 1))
	names(t, "the first Save behind Open", d, "wal-00000001 wal-00000002")
}

func TestP304StateAndFiles(t *testing.T) {
	d, l := fresh(t)
	counts(t, "none", l, 0)
	s := l.State()
	for i := 1; i <= 40; i++ {
		save(t, l, nil, sized(i, 1000))
		s = saying(s, sized(i, 1000))
		counts(t, fmt.Sprint(i), l, (i+4)/5) // the fifth record reaches Segment
		if told(l.State()) != told(s) {
			t.Fatalf("%d: %s, not %s", i, told(l.State()), told(s))
		}
	}
	cut(t, l, 30, 1)
	counts(t, "cut", l, 1)
	says(t, "cut", d, l, told(saying(s, meta(30, 1))))
}

func TestP304OnceTheDiskHasStopped(t *testing.T) {
	d, l := many(t)
	state := told(l.State())
	counts(t, "ahead of it", l, 5)
	d.Stop(1)
	counts(t, "not yet", l, 5)
	is(t, "the stop is not the log's", d.Remove("a"), api.ErrDead)
	counts(t, "stopped", l, 0)
	if told(l.State()) != state {
		t.Errorf("stopped: %s, not %s", told(l.State()), state)
	}
	d.Crash()
	counts(t, "behind a crash", l, 5)
	says(t, "behind a crash", d, l, state)
}
