package wal_test

import (
	"fmt"
	"slices"
	"testing"

	"horologe/api"
	"horologe/disk"
	"horologe/wal"
)

// beginning is a log as it stands ahead of the call that is cut off.
type beginning struct {
	what string
	make func(*testing.T) (*disk.Disk, *wal.Log)
}

func beginnings() []beginning {
	return []beginning{
		{"no files", func(t *testing.T) (*disk.Disk, *wal.Log) { return fresh(t) }},
		{"a file", func(t *testing.T) (*disk.Disk, *wal.Log) {
			d, l := fresh(t)
			save(t, l, &api.Hard{Term: 1, Vote: 2}, run(1, 4, 1)...)
			return d, l
		}},
		{"a file, opened", func(t *testing.T) (*disk.Disk, *wal.Log) {
			d, l := fresh(t)
			save(t, l, &api.Hard{Term: 1, Vote: 2}, run(1, 4, 1)...)
			return d, opened(t, d)
		}},
		{"a file that is full", func(t *testing.T) (*disk.Disk, *wal.Log) {
			d, l := fresh(t)
			save(t, l, &api.Hard{Term: 1, Vote: 2}, sized(1, 4096))
			return d, l
		}},
		{"a torn file, opened", func(t *testing.T) (*disk.Disk, *wal.Log) {
			d, l := fresh(t)
			save(t, l, &api.Hard{Term: 1, Vote: 2}, run(1, 4, 1)...)
			d.Stop(2)
			is(t, "torn", l.Save(nil, en(3, 7), en(4, 7)), api.ErrDead)
			d.Crash(50)
			return d, opened(t, d)
		}},
		{"a base", based},
		{"many files", many},
	}
}

// saving is a Save of a log, by where its entries begin: so many behind the last one.
type saving struct {
	h    *api.Hard
	from int
	more int
}

func (s saving) entries(l wal.State) []api.Entry {
	first := max(l.Meta.Index+len(l.Entries)+s.from, l.Meta.Index+1)
	return run(first, first+s.more-1, 9)
}

var savings = []saving{
	{&api.Hard{Term: 9, Vote: 3, Commit: 2}, 1, 0}, {nil, 1, 1}, {nil, 1, 3}, {&api.Hard{Term: 9, Vote: -1}, 1, 2}, {&api.Hard{Term: 9}, 0, 3}, {&api.Hard{Term: 9}, -1, 1}, {nil, -2, 5},
}

// fronts tells the states behind some of a Save's records, from the first on.
func fronts(s wal.State, h *api.Hard, e []api.Entry) []string {
	all := []string{told(s)}
	for _, x := range e {
		s = saying(s, x)
		all = append(all, told(s))
	}
	if h != nil {
		s = saying(s, *h)
		all = append(all, told(s))
	}
	return all
}

// settled asks a disk behind a crash for one of these states, which is there still behind another one, and what is saved then, too.
func settled(t *testing.T, what string, d *disk.Disk, may []string) wal.State {
	t.Helper()
	l, s, err := wal.Open(d)
	is(t, what+": Open", err, api.OK)
	if !slices.Contains(may, told(s)) {
		t.Fatalf("%s: %s, none of %q", what, told(s), may)
	}
	if d.Crash(1, 2, 3) != 0 {
		t.Fatalf("%s: Open wrote something", what)
	}
	says(t, what+", behind another crash", d, l, told(s))
	h, e := api.Hard{Term: 77, Vote: 7, Commit: 7}, en(s.Meta.Index+len(s.Entries)+1, 77)
	save(t, l, &h, e)
	d.Crash()
	says(t, what+", and a Save", d, l, told(saying(s, e, h)))
	return s
}

func TestP305ASaveIsCutOff(t *testing.T) {
	for _, b := range beginnings() {
		for i, c := range savings {
			for stop := 1; stop <= 3; stop++ {
				for pick, ways := 0, 1; pick < ways; pick++ {
					d, l := b.make(t)
					ahead := l.State()
					e := c.entries(ahead)
					may := fronts(ahead, c.h, e)
					used := d.Used()
					d.Stop(stop)
					err := l.Save(c.h, e...)
					if stop == 2 {
						ways = d.Used() - used + 1 // each number of its bytes stays once
					}
					want := api.ErrDead
					if stop == 3 {
						want, may = api.OK, may[len(may)-1:]
					}
					what := fmt.Sprintf("%s: Save %d, stopped at %d, %d stay", b.what, i, stop, pick)
					is(t, what, err, want)
					d.Crash(pick)
					if stop == 2 && pick == 0 {
						may = may[:1]
					}
					if stop == 2 && pick == ways-1 {
						may = may[len(may)-1:]
					}
					settled(t, what, d, may)
				}
			}
		}
	}
}

func TestP305ACutIsCutOff(t *testing.T) {
	for _, b := range beginnings() {
		for i := range 5 {
			for stop, done := 1, false; !done; stop++ {
				for pick, ways := 0, 1; pick < ways; pick++ {
					d, l := b.make(t)
					ahead := l.State()
					m := meta(ahead.Meta.Index+1+i, 1, 5, 6)
					behind := saying(ahead, m)
					used := d.Used()
					d.Stop(stop)
					err := l.Cut(m)
					ways = max(d.Used()-used+1, 1)
					done = err == api.OK
					what := fmt.Sprintf("%s: Cut at %v, stopped at %d, %d stay", b.what, m, stop, pick)
					may := []string{told(ahead), told(behind)}
					if done {
						may = may[1:]
					} else {
						is(t, what, err, api.ErrDead)
					}
					d.Crash(pick)
					settled(t, what, d, may)
					if stop > 20 {
						t.Fatal("a Cut of more than 20 operations")
					}
				}
			}
		}
	}
}

func TestP305ACutTellsWhetherItIsRenamed(t *testing.T) {
	for _, b := range beginnings() {
		for stop := 1; stop <= 9; stop++ {
			d, l := b.make(t)
			d.Stop(stop)
			l.Cut(meta(l.State().Meta.Index+1, 1, 5, 6))
			want := told(l.State())
			d.Crash(1000, 3, 1000)
			settled(t, fmt.Sprintf("%s: stopped at %d", b.what, stop), d, []string{want})
		}
	}
}

// A log that was cut off and goes on behind the crash, without Open, must not lay entries upon others than those that stayed.
func TestP305TheLogGoesOnBehindACrash(t *testing.T) {
	for _, b := range beginnings() {
		for i, c := range savings {
			for stop := 1; stop <= 2; stop++ {
				for pick := 0; pick < 260; pick += 3 {
					d, l := b.make(t)
					e := c.entries(l.State())
					may := fronts(l.State(), c.h, e)
					d.Stop(stop)
					what := fmt.Sprintf("%s: Save %d, stopped at %d, pick %d", b.what, i, stop, pick)
					is(t, what, l.Save(c.h, e...), api.ErrDead)
					if got := told(l.State()); got != may[0] {
						t.Fatalf("%s: %s, not %s", what, got, may[0])
					}
					d.Crash(pick)
					s := l.State()
					if !slices.Contains(may, told(s)) {
						t.Fatalf("%s: %s, none of %q", what, told(s), may)
					}
					says(t, what, d, l, told(s))
					more := en(s.Meta.Index+len(s.Entries)+1, 50)
					if pick%2 == 0 {
						is(t, what, l.Save(nil, more), api.OK)
						s = saying(s, more)
					} else {
						is(t, what, l.Cut(meta(s.Meta.Index+2, 9)), api.OK)
						s = saying(s, meta(s.Meta.Index+2, 9))
					}
					says(t, what+", and on", d, l, told(s))
				}
			}
		}
	}
}

func TestP305ACrashWithoutAStop(t *testing.T) {
	for _, b := range beginnings() {
		d, l := b.make(t)
		want := told(l.State())
		if d.Crash() != 0 {
			t.Errorf("%s: not synced", b.what)
		}
		says(t, b.what, d, l, want)
		settled(t, b.what, d, []string{want})
	}
}
