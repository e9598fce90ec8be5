package disk_test

import (
	"math"
	"math/big"
	"testing"

	"horologe/api"
)

func TestP204TheChaptersExample(t *testing.T) {
	d := made(t, 100)
	lay(t, d, "a", "xyz")
	sync(t, d, "a")
	lay(t, d, "a", "uv")
	crashed(t, d, []int{1}, 1, "a=xyzu")
}

func TestP204APickIsTakenModulo(t *testing.T) {
	const all = "abcdefgh"
	for from := range all {
		loose := len(all) - from
		for _, pick := range []int{0, 1, 2, 3, 4, 5, 6, 7, 8, 9, 10, 17, 18, 100, -1, -2, -3, -8, -9, -10, -100, math.MaxInt, math.MaxInt - 1, math.MinInt, math.MinInt + 1} {
			d := made(t, 100)
			lay(t, d, "a", all[:from])
			sync(t, d, "a")
			lay(t, d, "a", all[from:])
			stay := int(new(big.Int).Mod(big.NewInt(int64(pick)), big.NewInt(int64(loose)+1)).Int64()) // big.Int's Mod is from 0 on
			crashed(t, d, []int{pick}, 1, "a="+all[:from+stay])
		}
	}
}

func TestP204PicksGoByNames(t *testing.T) {
	for _, c := range []struct {
		picks []int
		want  string
	}{
		{nil, "a= b=123 c= d="},
		{[]int{2}, "a=12 b=123 c= d="},
		{[]int{0, 1}, "a= b=1234 c= d="},
		{[]int{3, 0, 2}, "a=123 b=123 c=xy d="},
		{[]int{1, 1, 1, 1}, "a=1 b=1234 c=x d=u"},
		{[]int{1, 1, 1, 1, 2, 3, 4}, "a=1 b=1234 c=x d=u"},
		{[]int{-1, -1, -1, -1}, "a=123 b=1234 c=xyz d=uv"},
		{[]int{4, 2, 4, 3}, "a= b=123 c= d="},
	} {
		d := made(t, 100)
		lay(t, d, "d", "uv")
		lay(t, d, "b", "123")
		lay(t, d, "q", "xyz")
		sync(t, d, "b")
		is(t, "Rename", d.Rename("q", "c"), api.OK)
		lay(t, d, "a", "123")
		lay(t, d, "b", "4")
		crashed(t, d, c.picks, 4, c.want)
	}
}

func TestP204WhatIsSyncedTakesNoPick(t *testing.T) {
	d := made(t, 100)
	lay(t, d, "a", "123")
	sync(t, d, "a")
	lay(t, d, "b", "")
	lay(t, d, "c", "456")
	lay(t, d, "d", "789")
	sync(t, d, "d")
	lay(t, d, "d", "")
	lay(t, d, "e", "0")
	crashed(t, d, []int{2, 1}, 2, "a=123 b= c=45 d=789 e=0")
}

func TestP204BehindACrashAllIsSynced(t *testing.T) {
	d := made(t, 100)
	lay(t, d, "a", "12345")
	crashed(t, d, []int{3}, 1, "a=123")
	crashed(t, d, []int{1}, 0, "a=123")
	lay(t, d, "a", "67")
	crashed(t, d, []int{1}, 1, "a=1236")
	crashed(t, d, []int{1}, 0, "a=1236")
}

func TestP204ACrashLetsTheDiskGoOn(t *testing.T) {
	d := made(t, 100)
	lay(t, d, "a", "12")
	d.Stop(1)
	is(t, "stopped", d.Sync("a"), api.ErrDead)
	crashed(t, d, []int{1}, 1, "a=1")
	for range 5 {
		lay(t, d, "a", "3")
	}
	counts(t, "behind a crash", d, 6)
}

func TestP204ACrashTakesAStopBack(t *testing.T) {
	for n := 1; n < 4; n++ {
		d := made(t, 100)
		d.Stop(n)
		crashed(t, d, nil, 0, "")
		for range 5 {
			lay(t, d, "a", "1")
		}
		counts(t, "behind a crash", d, 5)
	}
}

func TestP204MadeAheadOfItsSync(t *testing.T) {
	for stay := range 4 {
		d := made(t, 100)
		lay(t, d, "a", "12")
		lay(t, d, "a", "3")
		crashed(t, d, []int{stay}, 1, "a="+"123"[:stay])
	}
}

func TestP204RenamedAheadOfItsSync(t *testing.T) {
	for stay := range 4 {
		d := made(t, 100)
		lay(t, d, "old", "synced")
		sync(t, d, "old")
		lay(t, d, "new", "123")
		is(t, "Rename", d.Rename("new", "old"), api.OK)
		crashed(t, d, []int{stay}, 1, "old="+"123"[:stay])
	}
}

func TestP204ARenamedFileKeepsWhatItHasSynced(t *testing.T) {
	d := made(t, 100)
	lay(t, d, "a", "12")
	sync(t, d, "a")
	lay(t, d, "a", "34")
	is(t, "Rename", d.Rename("a", "b"), api.OK)
	lay(t, d, "b", "56")
	lay(t, d, "a", "78")
	crashed(t, d, []int{0, 3}, 2, "a= b=12345")
}

func TestP204ANewFileOfAnElderNameIsNotSynced(t *testing.T) {
	d := made(t, 100)
	lay(t, d, "a", "123")
	sync(t, d, "a")
	is(t, "Remove", d.Remove("a"), api.OK)
	lay(t, d, "a", "4567")
	crashed(t, d, []int{2}, 1, "a=45")
}

func TestP205WhatWasSyncedStays(t *testing.T) {
	for _, op := range append(operations, wrong...) {
		if op.name == "Rename" || op.name == "Remove" {
			continue // these take it away
		}
		for stop := range 2 {
			d := twoFiles(t)
			d.Stop(stop)
			op.call(d)
			d.Crash()
			if b, err := d.Read("a"); err != api.OK || len(b) < 2 || string(b[:2]) != "12" {
				t.Errorf("%s: %q, %v", op.name, b, err)
			}
		}
	}
}

func TestP205WrittenBesideAndRenamed(t *testing.T) {
	const elder, newer = "elder", "the newer"
	for stop := 1; stop <= 5; stop++ {
		for pick := range len(newer) + 1 {
			d := made(t, 100)
			lay(t, d, "z", elder)
			sync(t, d, "z")
			d.Stop(stop)
			d.Append("new", []byte("the "))
			d.Append("new", []byte("newer"))
			d.Sync("new")
			renamed := d.Rename("new", "z")
			d.Crash(pick)
			want := elder
			if renamed == api.OK {
				want = newer
			}
			if b, err := d.Read("z"); err != api.OK || string(b) != want {
				t.Errorf("stopped at %d, pick %d: %q, %v", stop, pick, b, err)
			}
			if (renamed == api.OK) != (stop == 5) {
				t.Errorf("stopped at %d: Rename: %v", stop, renamed)
			}
		}
	}
}
