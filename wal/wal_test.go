package wal_test

import (
	"encoding/binary"
	"fmt"
	"hash/crc32"
	"maps"
	"slices"
	"strings"
	"testing"

	"horologe/api"
	"horologe/disk"
	"horologe/wal"
)

const blank = "{0 -1 0} 0/0[]"

// made tells a disk of so much room.
func made(t *testing.T, room int) *disk.Disk {
	t.Helper()
	d, err := disk.New(room)
	if err != api.OK {
		t.Fatalf("New(%d): %v", room, err)
	}
	return d
}

// opened opens a log that must open.
func opened(t *testing.T, d *disk.Disk) *wal.Log {
	t.Helper()
	l, s, err := wal.Open(d)
	if l == nil || err != api.OK {
		t.Fatalf("Open: %v, %v", l, err)
	}
	if told(s) != told(l.State()) {
		t.Fatalf("Open: %s, State: %s", told(s), told(l.State()))
	}
	return l
}

// fresh tells a log on a new disk of much room.
func fresh(t *testing.T) (*disk.Disk, *wal.Log) {
	t.Helper()
	d := made(t, 1<<24)
	return d, opened(t, d)
}

// is asks for an error, or for OK.
func is(t *testing.T, what string, got, want api.Errno) {
	t.Helper()
	if got != want {
		t.Errorf("%s: %v, not %v", what, got, want)
	}
}

// save saves what must be saved.
func save(t *testing.T, l *wal.Log, h *api.Hard, e ...api.Entry) {
	t.Helper()
	is(t, "Save", l.Save(h, e...), api.OK)
}

// cut cuts where it must be cut.
func cut(t *testing.T, l *wal.Log, index, term int, voters ...int) {
	t.Helper()
	is(t, "Cut", l.Cut(api.Meta{Index: index, Term: term, Voters: voters}), api.OK)
}

// en is an entry with a text by which it is known.
func en(index, term int) api.Entry {
	return api.Entry{Index: index, Term: term, Kind: (index%3 + 3) % 3, Data: fmt.Appendf(nil, "%d.%d", index, term)}
}

// run tells entries of one term.
func run(from, to, term int) []api.Entry {
	var all []api.Entry
	for i := from; i <= to; i++ {
		all = append(all, en(i, term))
	}
	return all
}

// told is a state as a text: the hard state, Meta, and the entries: their Index, Term, Kind and Data (a sum, if it is long).
func told(s wal.State) string {
	b := fmt.Sprintf("%v %d/%d%v", s.Hard, s.Meta.Index, s.Meta.Term, s.Meta.Voters)
	for _, e := range s.Entries {
		data := string(e.Data)
		if len(data) > 50 {
			data = fmt.Sprintf("%d bytes %x", len(data), crc32.ChecksumIEEE(e.Data))
		}
		b += fmt.Sprintf(" %d/%d/%d=%s", e.Index, e.Term, e.Kind, data)
	}
	return b
}

// says asks a log for its state, and the disk for the same when it is opened anew.
func says(t *testing.T, what string, d *disk.Disk, l *wal.Log, want string) {
	t.Helper()
	if got := told(l.State()); got != want {
		t.Errorf("%s: State: %s, not %s", what, got, want)
	}
	if got := told(opened(t, d).State()); got != want {
		t.Errorf("%s: opened anew: %s, not %s", what, got, want)
	}
}

// number tells the eight bytes of a number.
func number(n int) []byte { return binary.BigEndian.AppendUint64(nil, uint64(n)) }

// framed lays bytes into a frame, by the library's sum.
func framed(b []byte) []byte {
	f := binary.BigEndian.AppendUint32(nil, uint32(len(b)))
	f = binary.BigEndian.AppendUint32(f, crc32.ChecksumIEEE(b))
	return append(f, b...)
}

// bare tells the bytes of a record (an api.Hard, Entry or Meta) without their frame.
func bare(r any) []byte {
	switch r := r.(type) {
	case api.Hard:
		return slices.Concat([]byte{1}, number(r.Term), number(r.Vote), number(r.Commit))
	case api.Entry:
		length := binary.BigEndian.AppendUint32(nil, uint32(len(r.Data)))
		return slices.Concat([]byte{2}, number(r.Index), number(r.Term), []byte{byte(r.Kind)}, length, r.Data)
	}
	m := r.(api.Meta)
	b := slices.Concat([]byte{3}, number(m.Index), number(m.Term), []byte{byte(len(m.Voters))})
	for _, v := range m.Voters {
		b = append(b, number(v)...)
	}
	return b
}

// rec tells the bytes of records.
func rec(records ...any) []byte {
	var b []byte
	for _, r := range records {
		b = append(b, framed(bare(r))...)
	}
	return b
}

// lay makes a file, whatever had its name.
func lay(t *testing.T, d *disk.Disk, name string, b []byte) {
	t.Helper()
	d.Remove(name)
	is(t, "Append "+name, d.Append(name, b), api.OK)
	is(t, "Sync "+name, d.Sync(name), api.OK)
}

// files tells all that is on a disk.
func files(t *testing.T, d *disk.Disk) map[string]string {
	t.Helper()
	names, err := d.List()
	is(t, "List", err, api.OK)
	all := map[string]string{}
	for _, name := range names {
		b, err := d.Read(name)
		is(t, "Read "+name, err, api.OK)
		all[name] = string(b)
	}
	return all
}

// holds asks for just these files.
func holds(t *testing.T, what string, d *disk.Disk, want map[string]string) {
	t.Helper()
	got := files(t, d)
	if !maps.Equal(got, want) {
		t.Errorf("%s: %s", what, unlike(got, want))
	}
}

func unlike(got, want map[string]string) string {
	b := fmt.Sprintf("files %v, not %v", slices.Sorted(maps.Keys(got)), slices.Sorted(maps.Keys(want)))
	for name, x := range want {
		if y, is := got[name]; is && x != y {
			b += fmt.Sprintf("; %s: %x, not %x", name, y, x)
		}
	}
	return b
}

// names asks for the names of the files.
func names(t *testing.T, what string, d *disk.Disk, want string) {
	t.Helper()
	got, err := d.List()
	is(t, "List", err, api.OK)
	if strings.Join(got, " ") != want {
		t.Errorf("%s: %s, not %s", what, strings.Join(got, " "), want)
	}
}

// counts asks for the number of a log's files.
func counts(t *testing.T, what string, l *wal.Log, want int) {
	t.Helper()
	if got := l.Files(); got != want {
		t.Errorf("%s: %d files, not %d", what, got, want)
	}
}

// did asks how many operations a call took.
func did(t *testing.T, what string, d *disk.Disk, want int, call func()) {
	t.Helper()
	ahead := d.Ops()
	call()
	if got := d.Ops() - ahead; got != want {
		t.Errorf("%s: %d operations, not %d", what, got, want)
	}
}

// clone tells a disk with the same files, all of them synced.
func clone(t *testing.T, d *disk.Disk, room int) *disk.Disk {
	t.Helper()
	c := made(t, room)
	for name, b := range files(t, d) {
		lay(t, c, name, []byte(b))
	}
	return c
}
