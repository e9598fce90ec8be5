package disk_test

import (
	"math"
	"testing"

	"horologe/api"
	"horologe/disk"
)

// operation is a call that would be done, on a disk with the files a and b.
type operation struct {
	name string
	call func(*disk.Disk) api.Errno
}

var operations = []operation{
	{"Append", func(d *disk.Disk) api.Errno { return d.Append("a", []byte("9")) }},
	{"Append anew", func(d *disk.Disk) api.Errno { return d.Append("c", nil) }},
	{"Sync", func(d *disk.Disk) api.Errno { return d.Sync("a") }},
	{"Rename", func(d *disk.Disk) api.Errno { return d.Rename("a", "b") }},
	{"Remove", func(d *disk.Disk) api.Errno { return d.Remove("a") }},
}

// wrong are calls that are refused otherwise, but for ErrDead.
var wrong = []operation{
	{"Append: arg", func(d *disk.Disk) api.Errno { return d.Append("A", nil) }},
	{"Append: full", func(d *disk.Disk) api.Errno { return d.Append("a", make([]byte, 99)) }},
	{"Sync: arg", func(d *disk.Disk) api.Errno { return d.Sync("") }},
	{"Sync: none", func(d *disk.Disk) api.Errno { return d.Sync("c") }},
	{"Rename: arg", func(d *disk.Disk) api.Errno { return d.Rename("", "a") }},
	{"Rename: arg, to", func(d *disk.Disk) api.Errno { return d.Rename("a", "") }},
	{"Rename: none", func(d *disk.Disk) api.Errno { return d.Rename("c", "a") }},
	{"Remove: arg", func(d *disk.Disk) api.Errno { return d.Remove("") }},
	{"Remove: none", func(d *disk.Disk) api.Errno { return d.Remove("c") }},
}

// twoFiles tells a disk of room 20 with the files a (of which 12 is synced) and b, behind 4 operations.
func twoFiles(t *testing.T) *disk.Disk {
	t.Helper()
	d := made(t, 20)
	lay(t, d, "a", "12")
	sync(t, d, "a")
	lay(t, d, "a", "345")
	lay(t, d, "b", "67")
	return d
}

// dead asks each call but Ops, Used, Stop, Crash for ErrDead.
func dead(t *testing.T, what string, d *disk.Disk) {
	t.Helper()
	for _, op := range append(operations, wrong...) {
		is(t, what+": "+op.name, op.call(d), api.ErrDead)
	}
	for _, name := range []string{"a", "c", "A", ""} {
		unread(t, d, name, api.ErrDead)
	}
	if l, err := d.List(); err != api.ErrDead || len(l) != 0 {
		t.Errorf("%s: List: %v, %v", what, l, err)
	}
}

func TestP203TheNthOperationIsNotDone(t *testing.T) {
	for n := 1; n <= 12; n++ {
		d := made(t, 100)
		d.Stop(n)
		for range n - 1 {
			lay(t, d, "a", "x")
		}
		is(t, "the n-th", d.Append("a", []byte("y")), api.ErrDead)
		dead(t, "behind it", d)
		counts(t, "behind it", d, n-1)
		if d.Used() != n-1 {
			t.Errorf("Used %d, not %d", d.Used(), n-1)
		}
	}
}

func TestP203NothingOfTheOperationIsDone(t *testing.T) {
	for _, op := range append(operations, wrong...) {
		d := twoFiles(t)
		d.Stop(1)
		is(t, op.name, op.call(d), api.ErrDead)
		dead(t, op.name, d)
		counts(t, op.name, d, 4)
		if d.Used() != 7 {
			t.Errorf("%s: Used %d", op.name, d.Used())
		}
		crashed(t, d, []int{1, 2}, 2, "a=123 b=67")
	}
}

func TestP203RefusedOperationsCount(t *testing.T) {
	for _, op := range wrong {
		d := twoFiles(t)
		d.Stop(2)
		if err := op.call(d); err == api.OK || err == api.ErrDead {
			t.Errorf("%s: %v", op.name, err)
		}
		is(t, op.name, d.Sync("a"), api.ErrDead)
	}
}

func TestP203OtherCallsDoNotCount(t *testing.T) {
	d := twoFiles(t)
	d.Stop(2)
	for range 3 {
		holds(t, "Read, List, Used", d, "a=12345 b=67")
		counts(t, "Ops", d, 4)
		unread(t, d, "c", api.ErrNone)
		unread(t, d, "A", api.ErrArg)
	}
	sync(t, d, "a")
	holds(t, "Read, List, ahead of it", d, "a=12345 b=67")
	is(t, "the second one", d.Sync("a"), api.ErrDead)
}

func TestP203StopCountsFromNowOn(t *testing.T) {
	d := made(t, 100)
	d.Stop(2)
	lay(t, d, "a", "1")
	d.Stop(3)
	lay(t, d, "a", "2")
	lay(t, d, "a", "3")
	d.Stop(1)
	is(t, "the next one", d.Append("a", []byte("4")), api.ErrDead)
	crashed(t, d, []int{3}, 1, "a=123")
}

func TestP203StopBelowOneStopsNone(t *testing.T) {
	for _, n := range []int{0, -1, -5, math.MinInt} {
		d := made(t, 100)
		d.Stop(n)
		lay(t, d, "a", "1")
		d.Stop(1)
		d.Stop(n)
		for range 20 {
			lay(t, d, "a", "2")
		}
		counts(t, "none stopped", d, 21)
	}
}

func TestP203StopOfAGreatNumber(t *testing.T) {
	d := made(t, 100)
	d.Stop(math.MaxInt)
	for range 50 {
		lay(t, d, "a", "1")
	}
	counts(t, "none stopped yet", d, 50)
}

func TestP203StopLetsNoDeadDiskGoOn(t *testing.T) {
	for _, n := range []int{0, -1, 1, 2, 9} {
		d := twoFiles(t)
		d.Stop(1)
		is(t, "stopped", d.Sync("b"), api.ErrDead)
		d.Stop(n)
		dead(t, "Stop behind it", d)
		counts(t, "Stop behind it", d, 4)
		crashed(t, d, nil, 2, "a=12 b=")
		for range 10 {
			lay(t, d, "b", "1")
		}
		counts(t, "no stop behind a crash", d, 14)
	}
}
