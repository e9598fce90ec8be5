package shots_test

import (
	"fmt"
	"maps"
	"slices"
	"testing"

	"horologe/api"
	"horologe/disk"
	"horologe/shots"
)

func TestP402TrimWithoutASnapshot(t *testing.T) {
	d := made(t, 1<<20)
	did(t, "no files", d, 0, func() { is(t, "no files", shots.Trim(d), api.OK) })
	lay(t, d, "shot.new", file(meta(3, 1), "three"))
	lay(t, d, called(0), file(meta(0, 0), "zero"))
	lay(t, d, called(2), []byte("spoilt"))
	lay(t, d, called(9), file(meta(8, 1), "eight"))
	lay(t, d, "other", nil)
	ahead := files(t, d)
	did(t, "none is whole", d, 0, func() { is(t, "none is whole", shots.Trim(d), api.OK) })
	holds(t, "none is whole", d, ahead)
}

func TestP402TrimWithOne(t *testing.T) {
	d := made(t, 1000)
	save(t, d, meta(5, 2), "five")
	ahead := files(t, d)
	did(t, "one", d, 0, func() { is(t, "one", shots.Trim(d), api.OK) })
	holds(t, "one", d, ahead)
}

func TestP402TrimLeavesTheNewest(t *testing.T) {
	all := []int{1, 2, 3, 10, 99, 100, 12345678901, 100000000000, lastIndex}
	for n := 1; n <= len(all); n++ {
		d := made(t, 1<<20)
		for _, index := range slices.Backward(all[:n]) {
			save(t, d, meta(index, 1, 2), "data")
		}
		did(t, "Trim", d, n-1, func() { is(t, "Trim", shots.Trim(d), api.OK) })
		names(t, "Trim", d, called(all[n-1]))
		loads(t, "Trim", d, told(meta(all[n-1], 1, 2), []byte("data")))
		did(t, "again", d, 0, func() { is(t, "again", shots.Trim(d), api.OK) })
	}
}

func TestP402TrimLeavesOtherFiles(t *testing.T) {
	d := made(t, 1<<20)
	want := map[string]string{}
	save(t, d, meta(5, 2), "five")
	save(t, d, meta(4, 2), "four")
	for _, name := range strangers() {
		lay(t, d, name, file(meta(3, 1), "three"))
		want[name] = string(file(meta(3, 1), "three"))
	}
	want[called(5)] = string(file(meta(5, 2), "five"))
	is(t, "Trim", shots.Trim(d), api.OK)
	holds(t, "Trim", d, want)
}

func TestP402TrimTakesSpoiltOnesAway(t *testing.T) {
	all := broken()
	for _, what := range slices.Sorted(maps.Keys(all)) {
		for _, whole := range []int{5, 11} { // elder, newer
			d := made(t, 1<<25)
			lay(t, d, called(9), all[what])
			save(t, d, meta(whole, 2), "whole")
			did(t, what, d, 1, func() { is(t, what, shots.Trim(d), api.OK) })
			names(t, what, d, called(whole))
		}
	}
}

// trimming tells a disk on which Trim takes six files away, and leaves one in their midst.
func trimming(t *testing.T) *disk.Disk {
	t.Helper()
	d := made(t, 1<<20)
	for _, index := range []int{20, 3, 100, 7} {
		save(t, d, meta(index, index/2, 1, 2), fmt.Sprint(index))
	}
	lay(t, d, called(0), file(meta(0, 0), "zero"))
	lay(t, d, called(50), []byte("spoilt"))
	lay(t, d, called(101), file(meta(100, 50, 1, 2), "100"))
	lay(t, d, "other", []byte("x"))
	lay(t, d, "shot.new", []byte("x"))
	return d
}

func TestP402TrimGoesByNamesRising(t *testing.T) {
	gone := []int{0, 3, 7, 20, 50, 101}
	for done := range len(gone) + 1 {
		d := trimming(t)
		want := files(t, d)
		for _, index := range gone[:done] {
			delete(want, called(index))
		}
		d.Stop(done + 1)
		err := api.ErrDead
		if done == len(gone) {
			err = api.OK
		}
		what := fmt.Sprintf("stopped at %d", done+1)
		did(t, what, d, done, func() { is(t, what, shots.Trim(d), err) })
		if done < len(gone) {
			loads(t, what, d, api.ErrDead.Error())
		}
		d.Crash()
		holds(t, what, d, want)
		loads(t, what, d, "100/50[1 2]=100")
		is(t, what+", and again", shots.Trim(d), api.OK)
		names(t, what+", and again", d, "other", called(100), "shot.new")
	}
}

func TestP402TrimOnceTheDiskHasStopped(t *testing.T) {
	for _, d := range []*disk.Disk{made(t, 100), saving(t, false), trimming(t)} {
		d.Stop(1)
		d.Sync("x")
		did(t, "Trim", d, 0, func() { is(t, "Trim", shots.Trim(d), api.ErrDead) })
	}
}

func TestP402TrimMakesRoom(t *testing.T) {
	size := len(file(meta(1, 0), "data"))
	d := made(t, 2*size)
	for index := 1; index <= 30; index++ {
		save(t, d, meta(index, 0), "data")
		is(t, "Trim", shots.Trim(d), api.OK)
		if d.Used() != size {
			t.Fatalf("%d bytes used", d.Used())
		}
	}
	names(t, "the last one", d, called(30))
}
