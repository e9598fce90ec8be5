package disk_test

import (
	"slices"
	"strings"
	"testing"

	"horologe/api"
	"horologe/disk"
)

func TestP202AppendLaysBehind(t *testing.T) {
	d := made(t, 100)
	lay(t, d, "b", "xyz")
	lay(t, d, "a", "")
	holds(t, "made", d, "a= b=xyz")
	lay(t, d, "b", "uv")
	lay(t, d, "b", "")
	lay(t, d, "a", "w")
	holds(t, "more behind", d, "a=w b=xyzuv")
}

func TestP202AppendTakesAnyBytes(t *testing.T) {
	d := made(t, 1000)
	want := make([]byte, 0, 256)
	for x := range 256 {
		want = append(want, byte(x))
		is(t, "Append", d.Append("a", []byte{byte(x)}), api.OK)
	}
	if b, err := d.Read("a"); err != api.OK || !slices.Equal(b, want) {
		t.Errorf("Read: %x, %v", b, err)
	}
}

func TestP202AppendJustFitsOrIsRefused(t *testing.T) {
	d := made(t, 10)
	is(t, "11 of 10", d.Append("a", make([]byte, 11)), api.ErrFull)
	holds(t, "no file is made", d, "")
	lay(t, d, "a", "123456")
	is(t, "5 more", d.Append("a", []byte("78901")), api.ErrFull)
	is(t, "5 more, of another one", d.Append("b", []byte("78901")), api.ErrFull)
	holds(t, "nothing of it is there", d, "a=123456")
	lay(t, d, "b", "7890")
	holds(t, "full", d, "a=123456 b=7890")
	is(t, "1 more", d.Append("b", []byte("1")), api.ErrFull)
	lay(t, d, "c", "")
	holds(t, "full", d, "a=123456 b=7890 c=")
}

func TestP202RoomComesBack(t *testing.T) {
	d := made(t, 6)
	lay(t, d, "a", "123")
	lay(t, d, "b", "456")
	is(t, "Remove", d.Remove("a"), api.OK)
	lay(t, d, "c", "789")
	is(t, "no more", d.Append("c", []byte("0")), api.ErrFull)
	is(t, "Rename", d.Rename("b", "c"), api.OK)
	holds(t, "an elder one is gone", d, "c=456")
	lay(t, d, "c", "abc")
	is(t, "no more", d.Append("c", []byte("0")), api.ErrFull)
	is(t, "the same name", d.Rename("c", "c"), api.OK)
	is(t, "still no more", d.Append("c", []byte("0")), api.ErrFull)
	is(t, "a new name", d.Rename("c", "d"), api.OK)
	is(t, "still no more", d.Append("c", []byte("0")), api.ErrFull)
	holds(t, "full", d, "d=456abc")
}

func TestP202ACrashGivesRoomBack(t *testing.T) {
	d := made(t, 6)
	lay(t, d, "a", "123456")
	crashed(t, d, []int{2}, 1, "a=12")
	is(t, "5 more", d.Append("a", []byte("34567")), api.ErrFull)
	lay(t, d, "a", "3456")
	holds(t, "full", d, "a=123456")
}

func TestP202Rename(t *testing.T) {
	d := made(t, 100)
	lay(t, d, "a", "one")
	lay(t, d, "b", "second")
	is(t, "a new name", d.Rename("a", "c"), api.OK)
	holds(t, "a new name", d, "b=second c=one")
	is(t, "an elder one's", d.Rename("c", "b"), api.OK)
	holds(t, "an elder one's", d, "b=one")
	unread(t, d, "c", api.ErrNone)
	is(t, "its own", d.Rename("b", "b"), api.OK)
	holds(t, "its own", d, "b=one")
	lay(t, d, "b", "+")
	lay(t, d, "c", "new")
	holds(t, "the elder name makes a new file", d, "b=one+ c=new")
	is(t, "40 bytes", d.Rename("b", strings.Repeat("z", 40)), api.OK)
	holds(t, "40 bytes", d, "c=new "+strings.Repeat("z", 40)+"=one+")
}

func TestP202RenameOfAnEmptyFile(t *testing.T) {
	d := made(t, 10)
	lay(t, d, "a", "")
	lay(t, d, "b", "xyz")
	is(t, "Rename", d.Rename("a", "b"), api.OK)
	holds(t, "onto one with bytes", d, "b=")
}

func TestP202Remove(t *testing.T) {
	d := made(t, 10)
	lay(t, d, "a", "123")
	lay(t, d, "b", "45")
	is(t, "Remove", d.Remove("a"), api.OK)
	holds(t, "gone", d, "b=45")
	is(t, "once more", d.Remove("a"), api.ErrNone)
	is(t, "Sync", d.Sync("a"), api.ErrNone)
	lay(t, d, "a", "6")
	holds(t, "made anew", d, "a=6 b=45")
}

func TestP202ListIsInTheOrderOfBytes(t *testing.T) {
	want := []string{"-", "-a", ".", ".9", "0", "00", "09", "1", "10", "2", "9.z", "a", "a-", "a.", "a0", "aa", "b", "z"}
	d := made(t, 0)
	for i := range want {
		lay(t, d, want[i*7%len(want)], "")
	}
	if got, err := d.List(); err != api.OK || !slices.Equal(got, want) {
		t.Errorf("List: %v, %v", got, err)
	}
}

func TestP202ErrorsInTheirOrder(t *testing.T) {
	d := made(t, 4)
	lay(t, d, "a", "123")
	full := make([]byte, 99)
	for _, no := range wrongNames {
		is(t, "Append: arg, full", d.Append(no, full), api.ErrArg)
		is(t, "Append: arg", d.Append(no, nil), api.ErrArg)
		is(t, "Sync: arg, none", d.Sync(no), api.ErrArg)
		is(t, "Rename from: arg, none", d.Rename(no, "a"), api.ErrArg)
		is(t, "Rename to: arg", d.Rename("a", no), api.ErrArg)
		is(t, "Rename to: arg; from: none", d.Rename("b", no), api.ErrArg)
		is(t, "Rename both: arg", d.Rename(no, no), api.ErrArg)
		is(t, "Remove: arg, none", d.Remove(no), api.ErrArg)
		unread(t, d, no, api.ErrArg)
	}
	is(t, "Sync: none", d.Sync("b"), api.ErrNone)
	is(t, "Rename: none", d.Rename("b", "a"), api.ErrNone)
	is(t, "Rename to itself: none", d.Rename("b", "b"), api.ErrNone)
	is(t, "Remove: none", d.Remove("b"), api.ErrNone)
	unread(t, d, "b", api.ErrNone)
	is(t, "Append: full", d.Append("b", full), api.ErrFull)
	holds(t, "nothing has changed", d, "a=123")
	crashed(t, d, []int{1}, 1, "a=1")
}

func TestP202ARefusedSyncSyncsNothing(t *testing.T) {
	d := made(t, 4)
	lay(t, d, "a", "123")
	is(t, "Sync", d.Sync("b"), api.ErrNone)
	is(t, "Append", d.Append("a", []byte("45")), api.ErrFull)
	is(t, "Rename", d.Rename("b", "a"), api.ErrNone)
	is(t, "Rename", d.Rename("a", "A"), api.ErrArg)
	is(t, "its own name", d.Rename("a", "a"), api.OK)
	crashed(t, d, nil, 1, "a=")
}

func TestP202OpsCountsOperations(t *testing.T) {
	d := made(t, 4)
	n := 0
	for _, call := range []struct {
		what string
		call func() api.Errno
		want api.Errno
	}{
		{"Append", func() api.Errno { return d.Append("a", nil) }, api.OK},
		{"Append: arg", func() api.Errno { return d.Append("A", nil) }, api.ErrArg},
		{"Append: full", func() api.Errno { return d.Append("a", make([]byte, 5)) }, api.ErrFull},
		{"Sync", func() api.Errno { return d.Sync("a") }, api.OK},
		{"Sync: arg", func() api.Errno { return d.Sync("") }, api.ErrArg},
		{"Sync: none", func() api.Errno { return d.Sync("b") }, api.ErrNone},
		{"Rename", func() api.Errno { return d.Rename("a", "b") }, api.OK},
		{"Rename to itself", func() api.Errno { return d.Rename("b", "b") }, api.OK},
		{"Rename: arg", func() api.Errno { return d.Rename("b", "") }, api.ErrArg},
		{"Rename: none", func() api.Errno { return d.Rename("a", "b") }, api.ErrNone},
		{"Remove: arg", func() api.Errno { return d.Remove("") }, api.ErrArg},
		{"Remove: none", func() api.Errno { return d.Remove("a") }, api.ErrNone},
		{"Remove", func() api.Errno { return d.Remove("b") }, api.OK},
	} {
		is(t, call.what, call.call(), call.want)
		n++
		counts(t, call.what, d, n)
	}
	d.Read("a")
	d.Read("A")
	d.List()
	d.Used()
	d.Ops()
	d.Stop(9)
	d.Crash(1)
	disk.Name("a")
	counts(t, "no operations", d, n)
}

func TestP1ADiskThatIsNotOfNew(t *testing.T) {
	d := new(disk.Disk)
	is(t, "Append", d.Append("a", []byte{1}), api.ErrFull)
	is(t, "Sync", d.Sync("a"), api.ErrNone)
	unread(t, d, "a", api.ErrNone)
	crashed(t, d, []int{1}, 0, "")
	lay(t, d, "a", "")
	is(t, "Rename", d.Rename("a", "b"), api.OK)
	holds(t, "one without room", d, "b=")
}
