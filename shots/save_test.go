package shots_test

import (
	"fmt"
	"math"
	"strings"
	"testing"

	"horologe/api"
	"horologe/disk"
	"horologe/shots"
)

func TestP401TheChaptersExample(t *testing.T) {
	d := made(t, 1000)
	save(t, d, meta(7, 0), "")
	names(t, "Save", d, "shot-000000000007")
}

func TestP401TheFileThatItLays(t *testing.T) {
	for _, c := range []struct {
		m    api.Meta
		data string
	}{
		{meta(1, 0), ""},
		{meta(7, 3, 1, 2, 3), "seven"},
		{meta(12, 1, 0), "\x00\xff\x00"},
		{meta(lastIndex, math.MaxInt, 1, 2, 3, 4, 5, 6, 7), "last"},
		{meta(5, 5, -1, math.MinInt, math.MaxInt, 5, 5), "voters as they are"},
	} {
		d := made(t, 1000)
		did(t, "Save", d, 3, func() { save(t, d, c.m, c.data) })
		holds(t, "Save", d, map[string]string{called(c.m.Index): string(file(c.m, c.data))})
		loads(t, "Save", d, told(c.m, []byte(c.data)))
		if d.Crash() != 0 {
			t.Errorf("%v: not synced", c.m)
		}
	}
}

func TestP401WhatIsRefused(t *testing.T) {
	eight := []int{1, 2, 3, 4, 5, 6, 7, 8}
	for _, c := range []struct {
		m    api.Meta
		more int // bytes of data
		want api.Errno
	}{
		{api.Meta{}, 0, api.ErrArg},
		{meta(0, 1, 1), 1, api.ErrArg},
		{meta(-1, 1), 1, api.ErrArg},
		{meta(math.MinInt, 1), 1, api.ErrArg},
		{meta(lastIndex+1, 1), 1, api.ErrArg},
		{meta(math.MaxInt, 1), 1, api.ErrArg},
		{meta(1, -1), 1, api.ErrArg},
		{meta(1, math.MinInt), 1, api.ErrArg},
		{meta(1, 1, eight...), 1, api.ErrArg},
		{meta(1, 1, make([]int, 257)...), 1, api.ErrArg},
		{meta(1, 1), maxData + 1, api.ErrLong},
		{meta(1, 1), 2 * maxData, api.ErrLong},
		{meta(0, 1), maxData + 1, api.ErrArg},
		{meta(lastIndex+1, 1), maxData + 1, api.ErrArg},
		{meta(1, -1), maxData + 1, api.ErrArg},
		{meta(1, 1, eight...), maxData + 1, api.ErrArg},
	} {
		d := made(t, 1<<25)
		lay(t, d, "shot.new", []byte("left"))
		save := func() {
			is(t, fmt.Sprintf("%d/%d, %d voters, %d bytes", c.m.Index, c.m.Term, len(c.m.Voters), c.more), shots.Save(d, c.m, make([]byte, c.more)), c.want)
		}
		did(t, "refused", d, 0, save)
		holds(t, "refused", d, map[string]string{"shot.new": "left"})
		d.Stop(1)
		save() // ahead of the disk's error, which is named last
		d.Remove("shot.new")
		save()
	}
}

func TestP401WhatIsTakenAtTheEdges(t *testing.T) {
	for _, m := range []api.Meta{meta(1, 1), meta(lastIndex, 1), meta(1, 0), meta(1, 1, 1, 2, 3, 4, 5, 6, 7)} {
		d := made(t, 1000)
		save(t, d, m, "x")
		loads(t, "an edge", d, told(m, []byte("x")))
	}
}

func TestP401TheLongestData(t *testing.T) {
	d := made(t, 1<<25)
	data := strings.Repeat("0123456789abcdef", maxData/16)
	m := meta(3, 2, 1, 2, 3, 4, 5, 6, 7)
	save(t, d, m, data)
	loads(t, "2^23 bytes", d, told(m, []byte(data)))
	is(t, "one more", shots.Save(d, m, []byte(data+"x")), api.ErrLong)
	loads(t, "one more", d, told(m, []byte(data)))
}

func TestP401WhatIsLeftIsTakenAwayFirst(t *testing.T) {
	for _, left := range []string{"", "left", strings.Repeat("much ", 100), string(file(meta(9, 9), "nine"))} {
		d := made(t, 1000)
		is(t, "Append", d.Append("shot.new", []byte(left)), api.OK)
		did(t, "Save", d, 4, func() { save(t, d, meta(7, 3, 1), "seven") })
		holds(t, "left "+left, d, map[string]string{called(7): string(file(meta(7, 3, 1), "seven"))})
		if d.Crash() != 0 {
			t.Error("not synced")
		}
	}
}

func TestP401OntoAnElderOne(t *testing.T) {
	d := made(t, 1000)
	save(t, d, meta(7, 3, 1), "seven, and long")
	save(t, d, meta(6, 2, 1), "six")
	did(t, "Save", d, 3, func() { save(t, d, meta(7, 4, 2, 3), "again") })
	holds(t, "onto it", d, map[string]string{
		called(6): string(file(meta(6, 2, 1), "six")),
		called(7): string(file(meta(7, 4, 2, 3), "again")),
	})
	lay(t, d, called(7), []byte("spoilt"))
	save(t, d, meta(7, 5), "once more")
	loads(t, "onto a spoilt one", d, "7/5[]=once more")
}

func TestP401AFullDisk(t *testing.T) {
	m := meta(7, 3, 1)
	size := len(file(m, "seven"))
	for lack := range 3 {
		d := made(t, 200+size-lack)
		lay(t, d, "other", make([]byte, 200))
		want, then := api.OK, "7/3[1]=seven"
		if lack > 0 {
			want, then = api.ErrFull, none
		}
		is(t, "Save", shots.Save(d, m, []byte("seven")), want)
		loads(t, "full", d, then)
		if lack > 0 {
			names(t, "nothing is left", d, "other")
		}
	}
}

func TestP401AFullDiskHasRoomForBoth(t *testing.T) {
	elder, newer := file(meta(7, 3), "seven"), file(meta(7, 4), "again")
	for lack := range 2 {
		d := made(t, len(elder)+len(newer)-lack)
		save(t, d, meta(7, 3), "seven")
		want, then := api.OK, "7/4[]=again"
		if lack > 0 {
			want, then = api.ErrFull, "7/3[]=seven"
		}
		is(t, "Save", shots.Save(d, meta(7, 4), []byte("again")), want)
		loads(t, "the elder one, or the newer", d, then)
		names(t, "onto it", d, called(7))
	}
}

func TestP401WhatIsLeftMakesRoom(t *testing.T) {
	size := len(file(meta(7, 3), "seven"))
	d := made(t, size)
	lay(t, d, "shot.new", make([]byte, size))
	save(t, d, meta(7, 3), "seven")
	names(t, "room", d, called(7))
}

// saving tells a disk with an elder snapshot and, if asked for, what a crash left.
func saving(t *testing.T, left bool) *disk.Disk {
	t.Helper()
	d := made(t, 1000)
	save(t, d, meta(4, 2, 1), "four")
	if left {
		lay(t, d, "shot.new", []byte("left"))
	}
	return d
}

func TestP401TheDiskStopsAtEachOperation(t *testing.T) {
	newer := string(file(meta(6, 3, 1, 2), "six"))
	for _, c := range []struct {
		left bool
		then []string // what shot.new has, where the disk stops at the first operation, at the second ..; "-": it is not there
	}{
		{false, []string{"-", newer, newer}},
		{true, []string{"left", "-", newer, newer}},
	} {
		for i, then := range c.then {
			d := saving(t, c.left)
			d.Stop(i + 1)
			what := fmt.Sprintf("left: %v, stopped at %d", c.left, i+1)
			did(t, what, d, i, func() { is(t, what, shots.Save(d, meta(6, 3, 1, 2), []byte("six")), api.ErrDead) })
			is(t, what+", and again", shots.Save(d, meta(6, 3, 1, 2), []byte("six")), api.ErrDead)
			loads(t, what, d, api.ErrDead.Error())
			d.Crash(len(newer)) // all of them
			want := map[string]string{called(4): string(file(meta(4, 2, 1), "four")), "shot.new": then}
			if then == "-" {
				delete(want, "shot.new")
			}
			holds(t, what, d, want)
		}
		d := saving(t, c.left)
		d.Stop(len(c.then) + 1)
		is(t, "stopped behind it", shots.Save(d, meta(6, 3, 1, 2), []byte("six")), api.OK)
		loads(t, "stopped behind it", d, "6/3[1 2]=six")
	}
}

func TestP401ADiskThatHasStopped(t *testing.T) {
	d := saving(t, true)
	d.Stop(1)
	is(t, "it stops", d.Sync("other"), api.ErrDead)
	did(t, "Save", d, 0, func() { is(t, "Save", shots.Save(d, meta(6, 3), nil), api.ErrDead) })
	d.Crash()
	save(t, d, meta(6, 3), "six")
	loads(t, "it goes on", d, "6/3[]=six")
}
