package disk_test

import (
	"strings"
	"testing"

	"horologe/api"
	"horologe/disk"
)

// made tells a disk of so much room.
func made(t *testing.T, room int) *disk.Disk {
	t.Helper()
	d, err := disk.New(room)
	if d == nil || err != api.OK {
		t.Fatalf("New(%d): %v", room, err)
	}
	return d
}

// is asks for an error, or for OK.
func is(t *testing.T, what string, got, want api.Errno) {
	t.Helper()
	if got != want {
		t.Errorf("%s: %v, not %v", what, got, want)
	}
}

// lay appends what must find room.
func lay(t *testing.T, d *disk.Disk, name, b string) {
	t.Helper()
	is(t, "Append "+name, d.Append(name, []byte(b)), api.OK)
}

// sync syncs what must be there.
func sync(t *testing.T, d *disk.Disk, name string) {
	t.Helper()
	is(t, "Sync "+name, d.Sync(name), api.OK)
}

// files tells all that is there, by names: "a=xyz b=".
func files(t *testing.T, d *disk.Disk) string {
	t.Helper()
	names, err := d.List()
	is(t, "List", err, api.OK)
	var all []string
	for _, name := range names {
		b, err := d.Read(name)
		is(t, "Read "+name, err, api.OK)
		all = append(all, name+"="+string(b))
	}
	return strings.Join(all, " ")
}

// holds asks for just these files, and for a Used that fits them.
func holds(t *testing.T, what string, d *disk.Disk, want string) {
	t.Helper()
	if got := files(t, d); got != want {
		t.Errorf("%s: %q, not %q", what, got, want)
	}
	used := 0
	for _, part := range strings.Fields(want) {
		used += len(part) - strings.Index(part, "=") - 1
	}
	if d.Used() != used {
		t.Errorf("%s: Used %d, not %d", what, d.Used(), used)
	}
}

// unread asks Read for an error, and for no bytes beside it.
func unread(t *testing.T, d *disk.Disk, name string, want api.Errno) {
	t.Helper()
	if b, err := d.Read(name); err != want || len(b) != 0 {
		t.Errorf("Read(%q): %q, %v; not %v alone", name, b, err, want)
	}
}

// counts asks for the number of operations.
func counts(t *testing.T, what string, d *disk.Disk, want int) {
	t.Helper()
	if got := d.Ops(); got != want {
		t.Errorf("%s: Ops %d, not %d", what, got, want)
	}
}

// crashed asks how many files were to be picked, and what is there then.
func crashed(t *testing.T, d *disk.Disk, picks []int, count int, want string) {
	t.Helper()
	if got := d.Crash(picks...); got != count {
		t.Errorf("Crash(%v): %d, not %d", picks, got, count)
	}
	holds(t, "behind a crash", d, want)
}
