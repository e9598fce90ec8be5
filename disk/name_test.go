package disk_test

import (
	"math"
	"strings"
	"testing"

	"horologe/api"
	"horologe/disk"
)

// wrongNames are of a wrong length, or of bytes that are no name's.
var wrongNames = []string{
	"", strings.Repeat("a", 41), strings.Repeat("a", 1000), "A", "aB", "a b", "a_b", "a/b", "a\x00", "a\n", "\xff", "a\xc3", "é",
	"š", "\u0430", // runes of which the low byte, or the look, is that of an a
	strings.Repeat("é", 20), strings.Repeat("a", 39) + "A", "A" + strings.Repeat("a", 39), strings.Repeat("a", 40) + "A",
}

func TestP201NewRefusesRoomBelowZero(t *testing.T) {
	for _, room := range []int{-1, -2, -40, math.MinInt} {
		if d, err := disk.New(room); d != nil || err != api.ErrArg {
			t.Errorf("New(%d): %v, %v", room, d, err)
		}
	}
}

func TestP201NewIsWithoutFiles(t *testing.T) {
	for _, room := range []int{0, 1, 1 << 20, math.MaxInt} {
		d := made(t, room)
		holds(t, "a new one", d, "")
		counts(t, "a new one", d, 0)
		unread(t, d, "a", api.ErrNone)
		crashed(t, d, []int{1, 2}, 0, "")
	}
}

func TestP201NoRoomHoldsEmptyFiles(t *testing.T) {
	d := made(t, 0)
	is(t, "a byte", d.Append("a", []byte{1}), api.ErrFull)
	holds(t, "refused", d, "")
	lay(t, d, "a", "")
	is(t, "nil", d.Append("b", nil), api.OK)
	is(t, "a byte more", d.Append("a", []byte{1}), api.ErrFull)
	holds(t, "two empty files", d, "a= b=")
}

func TestP201RoomIsOfAllFilesTogether(t *testing.T) {
	d := made(t, 5)
	lay(t, d, "a", "12")
	lay(t, d, "b", "345")
	is(t, "a third file", d.Append("c", []byte("6")), api.ErrFull)
	holds(t, "full", d, "a=12 b=345")
}

func TestP201TheMostRoom(t *testing.T) {
	d := made(t, math.MaxInt)
	lay(t, d, "a", "xyz")
	lay(t, d, "b", "uv")
	holds(t, "the most room", d, "a=xyz b=uv")
}

func TestP201TwoDisksShareNothing(t *testing.T) {
	a, b := made(t, 3), made(t, 3)
	a.Stop(3)
	lay(t, a, "x", "123")
	holds(t, "the other one", b, "")
	counts(t, "the other one", b, 0)
	for range 4 {
		lay(t, b, "y", "")
	}
	lay(t, b, "y", "456")
	holds(t, "the first one", a, "x=123")
}

func TestP201NamesOfOneByte(t *testing.T) {
	for x := range 256 {
		s := string([]byte{byte(x)})
		want := strings.Contains("abcdefghijklmnopqrstuvwxyz0123456789.-", s)
		for _, name := range []string{s, "a" + s, s + "a", strings.Repeat("z", 39) + s} {
			if disk.Name(name) != want {
				t.Errorf("Name(%q): %v", name, !want)
			}
		}
	}
}

func TestP201NamesByTheirLength(t *testing.T) {
	for size := range 100 {
		want := size >= 1 && size <= 40
		if got := disk.Name(strings.Repeat("-", size)); got != want {
			t.Errorf("%d bytes: %v", size, got)
		}
	}
}

func TestP201RightAndWrongNames(t *testing.T) {
	for _, name := range []string{"a", "z", "0", "9", ".", "-", "..", "wal-00000001", "shot.new", "-.-", strings.Repeat("9", 40)} {
		if !disk.Name(name) {
			t.Errorf("Name(%q): false", name)
		}
	}
	for _, name := range wrongNames {
		if disk.Name(name) {
			t.Errorf("Name(%q): true", name)
		}
	}
}
