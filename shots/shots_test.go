package shots_test

import (
	"encoding/binary"
	"fmt"
	"hash/crc32"
	"maps"
	"slices"
	"strings"
	"testing"

	"horologe/api"
	"horologe/disk"
	"horologe/shots"
)

const (
	none      = "none"
	lastIndex = 999999999999
	maxData   = 1 << 23
)

// made tells a disk of so much room.
func made(t *testing.T, room int) *disk.Disk {
	t.Helper()
	d, err := disk.New(room)
	if err != api.OK {
		t.Fatalf("New(%d): %v", room, err)
	}
	return d
}

// is asks for an error, or for OK.
func is(t *testing.T, what string, got, want api.Errno) {
	t.Helper()
	if got != want {
		t.Errorf("%s: %v, not %v", what, got, want)
	}
}

func meta(index, term int, voters ...int) api.Meta {
	return api.Meta{Index: index, Term: term, Voters: voters}
}

// save saves what must be saved.
func save(t *testing.T, d *disk.Disk, m api.Meta, data string) {
	t.Helper()
	is(t, fmt.Sprintf("Save %v", m), shots.Save(d, m, []byte(data)), api.OK)
}

// told is a snapshot as a text: Index, Term, voters, data (a sum, if it is long).
func told(m api.Meta, data []byte) string {
	text := string(data)
	if len(data) > 100 {
		text = fmt.Sprintf("%d bytes %x", len(data), crc32.ChecksumIEEE(data))
	}
	return fmt.Sprintf("%d/%d%v=%s", m.Index, m.Term, m.Voters, text)
}

// newest tells what Load answers, as a text, and holds it to P4.
func newest(t *testing.T, d *disk.Disk) string {
	t.Helper()
	m, data, err := shots.Load(d)
	if err == api.OK {
		return told(m, data)
	}
	if m.Index != 0 || m.Term != 0 || len(m.Voters) > 0 || len(data) > 0 {
		t.Errorf("Load: %v, and %s beside it", err, told(m, data))
	}
	if err == api.ErrNone {
		return none
	}
	return err.Error()
}

// loads asks what Load answers; it is no operation, and changes nothing.
func loads(t *testing.T, what string, d *disk.Disk, want string) {
	t.Helper()
	ops := d.Ops()
	if got := newest(t, d); got != want {
		t.Errorf("%s: Load: %s, not %s", what, got, want)
	}
	if d.Ops() != ops {
		t.Errorf("%s: Load: %d operations", what, d.Ops()-ops)
	}
}

// number tells the eight bytes of a number.
func number(n int) []byte { return binary.BigEndian.AppendUint64(nil, uint64(n)) }

// text tells a text with its length ahead.
func text(s string) []byte {
	return append(binary.BigEndian.AppendUint32(nil, uint32(len(s))), s...)
}

// framed lays bytes into a frame, by the library's sum.
func framed(b []byte) []byte {
	f := binary.BigEndian.AppendUint32(nil, uint32(len(b)))
	f = binary.BigEndian.AppendUint32(f, crc32.ChecksumIEEE(b))
	return append(f, b...)
}

// bare tells the bytes of a snapshot without their frame.
func bare(m api.Meta, data string) []byte {
	b := slices.Concat(number(m.Index), number(m.Term), []byte{byte(len(m.Voters))})
	for _, v := range m.Voters {
		b = append(b, number(v)...)
	}
	return append(b, text(data)...)
}

// file tells the bytes of a snapshot's file.
func file(m api.Meta, data string) []byte { return framed(bare(m, data)) }

// called tells the name of a snapshot's file.
func called(index int) string { return fmt.Sprintf("shot-%012d", index) }

// lay makes a file, whatever had its name.
func lay(t *testing.T, d *disk.Disk, name string, b []byte) {
	t.Helper()
	d.Remove(name)
	is(t, "Append "+name, d.Append(name, b), api.OK)
	is(t, "Sync "+name, d.Sync(name), api.OK)
}

// files tells all that is on a disk.
func files(t *testing.T, d *disk.Disk) map[string]string {
	t.Helper()
	names, err := d.List()
	is(t, "List", err, api.OK)
	all := map[string]string{}
	for _, name := range names {
		b, err := d.Read(name)
		is(t, "Read "+name, err, api.OK)
		all[name] = string(b)
	}
	return all
}

// holds asks for just these files.
func holds(t *testing.T, what string, d *disk.Disk, want map[string]string) {
	t.Helper()
	if got := files(t, d); !maps.Equal(got, want) {
		t.Errorf("%s: files %q, not %q", what, got, want)
	}
}

// names asks for the names of the files.
func names(t *testing.T, what string, d *disk.Disk, want ...string) {
	t.Helper()
	got, err := d.List()
	is(t, "List", err, api.OK)
	if !slices.Equal(got, want) {
		t.Errorf("%s: %s, not %s", what, strings.Join(got, " "), strings.Join(want, " "))
	}
}

// did asks how many operations a call took.
func did(t *testing.T, what string, d *disk.Disk, want int, call func()) {
	t.Helper()
	ahead := d.Ops()
	call()
	if got := d.Ops() - ahead; got != want {
		t.Errorf("%s: %d operations, not %d", what, got, want)
	}
}
