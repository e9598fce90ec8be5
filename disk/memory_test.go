package disk_test

import (
	"slices"
	"strings"
	"testing"
	"unsafe"

	"horologe/api"
	"horologe/disk"
)

// spoil changes bytes, and their spare room.
func spoil(b []byte) {
	b = b[:cap(b)]
	for i := range b {
		b[i] = '?'
	}
}

// roomy tells bytes with spare room, in which stands something too.
func roomy(s string) []byte {
	b := []byte(s + "behind")
	return b[:len(s)]
}

// unchanged asks whether roomy's bytes are as they were.
func unchanged(t *testing.T, what string, b []byte, s string) {
	t.Helper()
	if got := string(b[:len(s)+6]); len(b) != len(s) || got != s+"behind" {
		t.Errorf("%s: changed to %q", what, got)
	}
}

func TestP2WhatIsAppendedIsNotKept(t *testing.T) {
	d := made(t, 100)
	first, second := roomy("xyz"), roomy("uv")
	is(t, "Append", d.Append("a", first), api.OK)
	unchanged(t, "made", first, "xyz")
	spoil(first)
	holds(t, "a spoilt one", d, "a=xyz")
	is(t, "Append", d.Append("a", second), api.OK)
	unchanged(t, "laid behind", second, "uv")
	spoil(second)
	spoil(first)
	holds(t, "two spoilt ones", d, "a=xyzuv")
	refused := roomy(strings.Repeat("w", 96))
	is(t, "Append", d.Append("a", refused), api.ErrFull)
	unchanged(t, "refused", refused, strings.Repeat("w", 96))
}

func TestP2WhatIsReadIsNew(t *testing.T) {
	d := made(t, 100)
	lay(t, d, "a", "123456")
	one, _ := d.Read("a")
	two, _ := d.Read("a")
	spoil(one)
	if string(two) != "123456" {
		t.Errorf("one answer changed another one: %q", two)
	}
	holds(t, "a spoilt answer", d, "a=123456")
	lay(t, d, "a", "78")
	if string(two) != "123456" {
		t.Errorf("an operation changed an answer: %q", two)
	}
	two = append(two, "??????"...)
	spoil(two)
	holds(t, "a longer answer", d, "a=12345678")
	d.Crash(1)
	three, _ := d.Read("a")
	lay(t, d, "a", "zyx")
	three = append(three, "???"...)
	spoil(three)
	holds(t, "behind a crash", d, "a=1zyx")
}

func TestP2WhatIsReadStaysBehindItsFile(t *testing.T) {
	d := made(t, 100)
	lay(t, d, "a", "123456")
	b, _ := d.Read("a")
	d.Crash()
	lay(t, d, "a", "abcdef")
	is(t, "Remove", d.Remove("a"), api.OK)
	lay(t, d, "a", "uvwxyz")
	if string(b) != "123456" {
		t.Errorf("an answer has changed: %q", b)
	}
}

func TestP2TheListIsNew(t *testing.T) {
	d := made(t, 100)
	for _, name := range []string{"a", "b", "c"} {
		lay(t, d, name, "")
	}
	one, _ := d.List()
	two, _ := d.List()
	one = one[:cap(one)]
	for i := range one {
		one[i] = "spoilt"
	}
	if !slices.Equal(two, []string{"a", "b", "c"}) {
		t.Errorf("one answer changed another one: %v", two)
	}
	holds(t, "a spoilt answer", d, "a= b= c=")
	lay(t, d, "aa", "")
	if !slices.Equal(two, []string{"a", "b", "c"}) {
		t.Errorf("an operation changed an answer: %v", two)
	}
}

func TestP2NamesAreNotKept(t *testing.T) {
	text := strings.Repeat("abc", 100)
	from, to := text[0:2], text[1:3]
	d := made(t, 100)
	lay(t, d, from, "1")
	lay(t, d, from, "2")
	own(t, d, from)
	is(t, "Rename", d.Rename(from, to), api.OK)
	own(t, d, to)
	is(t, "Rename", d.Rename(to, to), api.OK)
	lay(t, d, to, "3")
	sync(t, d, to)
	own(t, d, to)
}

// own asks whether the one file's name is one of the disk's own.
func own(t *testing.T, d *disk.Disk, name string) {
	t.Helper()
	if l, _ := d.List(); len(l) != 1 || l[0] != name || unsafe.StringData(l[0]) == unsafe.StringData(name) {
		t.Errorf("List: %v: not the name %s, or the text that was handed in", l, name)
	}
}

func TestP2PicksAreNotChanged(t *testing.T) {
	d := made(t, 100)
	for _, name := range []string{"a", "b", "c", "d"} {
		lay(t, d, name, "123")
	}
	all := []int{7, -1, 9, 11}
	picks := all[:2]
	crashed(t, d, picks, 4, "a=123 b=123 c= d=")
	if !slices.Equal(all, []int{7, -1, 9, 11}) {
		t.Errorf("picks: %v", all)
	}
	picks[0], picks[1] = 0, 0
	for _, name := range []string{"a", "b"} {
		lay(t, d, name, "4")
	}
	holds(t, "other picks", d, "a=1234 b=1234 c= d=")
}

func TestP2NoListIsAnEmptyOne(t *testing.T) {
	one, two := made(t, 9), made(t, 9)
	is(t, "nil", one.Append("a", nil), api.OK)
	is(t, "empty", two.Append("a", []byte{}), api.OK)
	for _, d := range []*disk.Disk{one, two} {
		lay(t, d, "b", "12")
		holds(t, "nil or empty", d, "a= b=12")
	}
	crashed(t, one, nil, 1, "a= b=")
	crashed(t, two, []int{}, 1, "a= b=")
}
