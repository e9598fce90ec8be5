package shots_test

import (
	"fmt"
	"slices"
	"testing"

	"horologe/api"
	"horologe/disk"
	"horologe/shots"
)

// beginning is a disk as it stands ahead of the call that is cut off.
type beginning struct {
	what string
	make func(*testing.T) *disk.Disk
}

func beginnings() []beginning {
	return []beginning{
		{"no snapshot", func(t *testing.T) *disk.Disk { return made(t, 1<<20) }},
		{"something left", func(t *testing.T) *disk.Disk {
			d := made(t, 1<<20)
			lay(t, d, "shot.new", file(meta(200, 100), "left"))
			return d
		}},
		{"one snapshot", func(t *testing.T) *disk.Disk { return saving(t, false) }},
		{"one snapshot, something left", func(t *testing.T) *disk.Disk { return saving(t, true) }},
		{"a spoilt one", func(t *testing.T) *disk.Disk {
			d := made(t, 1<<20)
			lay(t, d, called(6), []byte("spoilt"))
			return d
		}},
		{"many", trimming},
		{"a Save that was cut off", func(t *testing.T) *disk.Disk {
			d := saving(t, false)
			d.Stop(2)
			is(t, "cut off", shots.Save(d, meta(300, 1), []byte("cut off")), api.ErrDead)
			d.Crash(10)
			return d
		}},
	}
}

// settled asks a disk behind a crash for one of these snapshots, which is there still behind another one, and what is saved and trimmed then, too.
func settled(t *testing.T, what string, d *disk.Disk, may ...string) {
	t.Helper()
	got := newest(t, d)
	if !slices.Contains(may, got) {
		t.Fatalf("%s: %s, none of %q", what, got, may)
	}
	if d.Crash(1, 2, 3) != 0 {
		t.Fatalf("%s: not all was synced", what)
	}
	loads(t, what+", behind another crash", d, got)
	is(t, what, shots.Trim(d), api.OK)
	loads(t, what+", trimmed", d, got)
	save(t, d, meta(400, 200, 4), "on")
	d.Crash()
	loads(t, what+", and a Save", d, "400/200[4]=on")
}

func TestP403ASaveIsCutOff(t *testing.T) {
	for _, b := range beginnings() {
		for _, index := range []int{1, 4, 6, 100, 300} { // elder than what is there, the same, newer
			m := meta(index, 9, 8, 7)
			size := len(file(m, "saved"))
			for stop, done := 1, false; !done; stop++ {
				for pick := range size + 1 {
					d := b.make(t)
					elder := newest(t, d)
					behind := b.make(t)
					save(t, behind, m, "saved")
					newer := newest(t, behind)
					d.Stop(stop)
					err := shots.Save(d, m, []byte("saved"))
					done = err == api.OK
					what := fmt.Sprintf("%s: Save %d, stopped at %d, pick %d", b.what, index, stop, pick)
					d.Crash(pick)
					if done {
						settled(t, what, d, newer)
						continue
					}
					is(t, what, err, api.ErrDead)
					settled(t, what, d, elder) // the renaming is the last operation
					if stop > 4 {
						t.Fatal("a Save of more than 4 operations")
					}
				}
			}
		}
	}
}

func TestP403ATrimIsCutOff(t *testing.T) {
	for _, b := range beginnings() {
		for stop, done := 1, false; !done; stop++ {
			for pick := range 5 {
				d := b.make(t)
				same := newest(t, d)
				d.Stop(stop)
				err := shots.Trim(d)
				done = err == api.OK
				what := fmt.Sprintf("%s: Trim, stopped at %d, pick %d", b.what, stop, pick)
				if !done {
					is(t, what, err, api.ErrDead)
				}
				d.Crash(pick)
				settled(t, what, d, same)
				if stop > 10 {
					t.Fatal("a Trim of more than 10 operations")
				}
			}
		}
	}
}

func TestP403SavesAndTrimsCutOffAgainAndAgain(t *testing.T) {
	for seed := range 300 {
		d := made(t, 1<<20)
		sure := none // what was answered with OK
		for i := range 12 {
			m := meta(10*seed+i+1, i, seed)
			data := fmt.Sprint(seed, "/", i)
			d.Stop((seed*7 + i*3) % 6)
			err := shots.Save(d, m, []byte(data))
			may := []string{sure, told(m, []byte(data))}
			if err == api.OK {
				may = may[1:]
				err = shots.Trim(d)
			}
			d.Crash(seed+i, seed*i)
			got := newest(t, d)
			if !slices.Contains(may, got) {
				t.Fatalf("%d, %d: %v: %s, none of %q", seed, i, err, got, may)
			}
			sure = got
		}
	}
}

func TestP403ACrashWithoutAStop(t *testing.T) {
	for _, b := range beginnings() {
		d := b.make(t)
		want := newest(t, d)
		if d.Crash() != 0 {
			t.Errorf("%s: not synced", b.what)
		}
		settled(t, b.what, d, want)
	}
}
