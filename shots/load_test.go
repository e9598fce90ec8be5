package shots_test

import (
	"fmt"
	"maps"
	"math"
	"slices"
	"strings"
	"testing"

	"horologe/api"
	"horologe/disk"
	"horologe/shots"
)

func TestP402ADiskWithoutSnapshots(t *testing.T) {
	d := made(t, 1000)
	loads(t, "no files", d, none)
	loads(t, "no room", made(t, 0), none)
	loads(t, "a disk that is not of New", &disk.Disk{}, none)
	is(t, "a disk that is not of New", shots.Save(&disk.Disk{}, meta(1, 1), nil), api.ErrFull)
	is(t, "a disk that is not of New", shots.Trim(&disk.Disk{}), api.OK)
}

// strangers are names of files that are no snapshots'.
func strangers() []string {
	return []string{
		"shot", "shot-", "shot.new", "shot.000000000009", "shot000000000009", "shot--00000000009",
		"shot-9", "shot-00000000009", "shot-99999999999", // fewer digits
		"shot-0000000000009", "shot-9000000000009", "shot-9999999999999", "shot-000000000009000000000009", // more
		"shot-00000000000x", "shot-x00000000009", "shot-00000a000009", "shot--00000000009", "shot-.00000000009", "shot-00000000009.", "shot-00000000009-", "shot-0000000000.9", "shot-00000000009e",
		"-shot-000000000009", "xshot-000000000009", "shot-000000000009-", "shot-000000000009.new", "shots-000000000009", "shoz-000000000009", "wal-000000000009", "000000000009", "wal-00000009",
	}
}

func TestP402OtherFilesArePassedOver(t *testing.T) {
	d := made(t, 1<<20)
	for _, name := range strangers() {
		lay(t, d, name, file(meta(9, 4), "nine"))
		loads(t, name, d, none)
	}
	save(t, d, meta(5, 2), "five")
	for _, name := range strangers() {
		if name != "shot.new" {
			lay(t, d, name, file(meta(9, 4), "nine"))
		}
	}
	loads(t, "one among them", d, "5/2[]=five")
}

func TestP402TheGreatestIndex(t *testing.T) {
	d := made(t, 1<<20)
	greatest := 0
	for _, index := range []int{500, 60, 7, 501, 1, 499, 1000, 999, 99999999999, 100000000000, lastIndex - 1, 2, lastIndex, 3} {
		save(t, d, meta(index, index/2, index), fmt.Sprint(index))
		greatest = max(greatest, index)
		loads(t, "the greatest", d, told(meta(greatest, greatest/2, greatest), fmt.Append(nil, greatest)))
	}
}

// A greater Term is not what counts, nor what was saved later.
func TestP402TheIndexAlone(t *testing.T) {
	d := made(t, 1<<20)
	save(t, d, meta(8, 1), "eight")
	save(t, d, meta(7, 9), "seven")
	loads(t, "elder, of a greater term", d, "8/1[]=eight")
}

// broken tells files of Index 9 that are none.
func broken() map[string][]byte {
	m := meta(9, 4, 1, 2)
	whole, inner := file(m, "data"), bare(m, "data")
	all := map[string][]byte{
		"empty":                   {},
		"a byte":                  []byte("x"),
		"a text":                  []byte("nothing of a snapshot in it"),
		"without its first byte":  whole[1:],
		"a byte behind it":        append(slices.Clone(whole), 0),
		"a byte ahead of it":      append([]byte{0}, whole...),
		"it, twice":               slices.Concat(whole, whole),
		"a frame behind it":       append(slices.Clone(whole), framed(nil)...),
		"a frame ahead of it":     append(framed(nil), whole...),
		"an empty frame":          framed(nil),
		"without a frame":         inner,
		"a frame in a frame":      framed(whole),
		"a byte more in it":       framed(append(slices.Clone(inner), 0)),
		"a field more in it":      framed(append(slices.Clone(inner), number(1)...)),
		"without its data":        framed(inner[:len(inner)-8]),
		"Index of 8":              file(meta(8, 4, 1, 2), "data"),
		"Index of 10":             file(meta(10, 4, 1, 2), "data"),
		"Index of 0":              file(meta(0, 4, 1, 2), "data"),
		"Index below 0":           file(meta(-9, 4, 1, 2), "data"),
		"Index far away":          file(meta(9+1<<62, 4, 1, 2), "data"),
		"Index of 10^12 and 9":    file(meta(lastIndex+1+9, 4), "data"),
		"eight voters":            file(meta(9, 4, 1, 2, 3, 4, 5, 6, 7, 8), "data"),
		"255 voters":              file(meta(9, 4, make([]int, 255)...), "data"),
		"a voter too few":         framed(slices.Concat(number(9), number(4), []byte{3}, number(1), number(2), text("data"))),
		"a voter too many":        framed(slices.Concat(number(9), number(4), []byte{1}, number(1), number(2), text("data"))),
		"255 voters, none there":  framed(slices.Concat(number(9), number(4), []byte{255}, text("data"))),
		"data that is longer":     framed(slices.Concat(number(9), number(4), []byte{0, 0, 0, 0, 5}, []byte("data"))),
		"data that is shorter":    framed(slices.Concat(number(9), number(4), []byte{0, 0, 0, 0, 3}, []byte("data"))),
		"data of 2^32 - 1":        framed(slices.Concat(number(9), number(4), []byte{0, 255, 255, 255, 255}, []byte("data"))),
		"a frame of above 2^24":   append([]byte{1, 0, 0, 1}, make([]byte, 1<<24+5)...),
		"a frame that says 2^31":  append([]byte{128, 0, 0, 0}, whole[4:]...),
		"a frame without a sum":   append(slices.Concat(whole[:4], make([]byte, 4)), inner...),
		"fields that change seat": framed(slices.Concat(number(4), number(9), []byte{0}, text("data"))),
	}
	for i := range whole {
		all[fmt.Sprintf("cut off at %d", i)] = whole[:i]
		for bit := range 8 {
			turned := slices.Clone(whole)
			turned[i] ^= 1 << bit
			all[fmt.Sprintf("bit %d of %d turned", bit, i)] = turned
		}
	}
	for i := range inner {
		all[fmt.Sprintf("%d bytes in the frame", i)] = framed(inner[:i])
	}
	return all
}

func TestP402WhatIsNotWholeIsPassedOver(t *testing.T) {
	all := broken()
	for _, what := range slices.Sorted(maps.Keys(all)) {
		d := made(t, 1<<25)
		lay(t, d, called(9), all[what])
		loads(t, what, d, none)
		save(t, d, meta(5, 2), "five")
		save(t, d, meta(3, 1), "three")
		loads(t, what+", the newest one", d, "5/2[]=five")
		lay(t, d, called(5), []byte("spoilt"))
		loads(t, what+", and the next one", d, "3/1[]=three")
		save(t, d, meta(11, 5), "eleven")
		loads(t, what+", an elder one", d, "11/5[]=eleven")
		save(t, d, meta(9, 4), "nine")
		is(t, "Remove", d.Remove(called(11)), api.OK)
		loads(t, what+", saved anew", d, "9/4[]=nine")
	}
}

func TestP402IndexAndNameAtTheEdges(t *testing.T) {
	d := made(t, 1000)
	lay(t, d, called(0), file(meta(0, 0), "zero"))
	loads(t, "Index 0, by its name", d, none)
	lay(t, d, called(1), file(meta(1, 0), "one"))
	loads(t, "Index 1", d, "1/0[]=one")
	lay(t, d, called(lastIndex), file(meta(lastIndex, 0), "last"))
	loads(t, "the last Index", d, "999999999999/0[]=last")
	lay(t, d, called(lastIndex), file(meta(lastIndex+1, 0), "behind it"))
	loads(t, "behind the last Index", d, "1/0[]=one")
}

// What the chapter does not ask of a file is not asked of it.
func TestP402WholeAtTheEdges(t *testing.T) {
	long := strings.Repeat("x", maxData+1)
	for _, c := range []struct {
		m    api.Meta
		data string
	}{
		{meta(9, 0), ""},
		{meta(9, 4, 1, 2, 3, 4, 5, 6, 7), "seven voters"},
		{meta(9, 4, 2, 2, -1, math.MinInt, math.MaxInt), "voters as they are"},
		{meta(9, math.MaxInt), "a great term"},
		{meta(9, -1), "a term below 0"},
		{meta(9, 4), long},
	} {
		d := made(t, 1<<25)
		lay(t, d, called(9), file(c.m, c.data))
		loads(t, "whole", d, told(c.m, []byte(c.data)))
	}
}

func TestP402LoadOnceTheDiskHasStopped(t *testing.T) {
	for _, spoilt := range []bool{false, true} {
		d := made(t, 1000)
		if spoilt {
			lay(t, d, called(9), []byte("spoilt"))
		} else {
			save(t, d, meta(5, 2), "five")
		}
		ahead := newest(t, d)
		d.Stop(1)
		loads(t, "it will stop", d, ahead)
		d.Sync("x")
		loads(t, "it has stopped", d, api.ErrDead.Error())
		d.Crash()
		loads(t, "behind the crash", d, ahead)
	}
	d := made(t, 0)
	d.Stop(1)
	d.Sync("x")
	loads(t, "without files", d, api.ErrDead.Error())
}

// FuzzLoad holds whatever a file has against what Save would have laid there.
func FuzzLoad(f *testing.F) {
	f.Add(bare(meta(9, 4, 1, 2), "data"), true)
	f.Add(bare(meta(9, 4), ""), true)
	f.Add(file(meta(9, 4, 1, 2), "data"), false)
	f.Add(bare(meta(9, 4, 1, 2, 3, 4, 5, 6, 7, 8), "data"), true)
	f.Fuzz(func(t *testing.T, b []byte, frame bool) {
		if frame {
			b = framed(b)
		}
		d := made(t, 1<<30)
		lay(t, d, called(9), b)
		m, data, err := shots.Load(d)
		if err == api.ErrNone {
			loads(t, "none", d, none)
			return
		}
		is(t, "Load", err, api.OK)
		if m.Index != 9 || len(m.Voters) > api.MaxNodes || !slices.Equal(file(m, string(data)), b) {
			t.Errorf("%x: %s", b, told(m, data))
		}
	})
}
