package wal_test

import (
	"fmt"
	"math/rand"
	"reflect"
	"slices"
	"testing"

	"horologe/api"
	"horologe/wal"
)

// strangers are names of a disk that are no file's of the log.
var strangers = []string{
	"wal.new", "wal", "wal-", "wal-1", "wal-0000001", "wal-00000000", "wal-000000001", "wal-100000000", "wal-123456789", "wal-0000000x", "wal-x0000001", "wal--0000001", "wal-1-000001", "wal-1.000001", "wal-0000000.", "wal-.0000001", "wal.00000001", "wal00000001", "wal-00000001.new", "xwal-00000001", "-wal-00000001", "shot-000000000001", "00000001", "a",
}

func TestP301ADiskWithoutFiles(t *testing.T) {
	d := made(t, 1000)
	l := opened(t, d)
	says(t, "no files", d, l, blank)
	counts(t, "no files", l, 0)
	holds(t, "no files", d, nil)
	if d.Ops() != 0 {
		t.Errorf("%d operations", d.Ops())
	}
}

func TestP301OtherFilesArePassedOver(t *testing.T) {
	d := made(t, 1<<20)
	for _, name := range strangers {
		lay(t, d, name, rec(meta(9, 9), api.Hard{Term: 9}, en(10, 9)))
	}
	ahead := files(t, d)
	l := opened(t, d)
	says(t, "strangers alone", d, l, blank)
	counts(t, "strangers alone", l, 0)
	lay(t, d, "wal-00000003", rec(en(1, 1)))
	ahead["wal-00000003"] = string(rec(en(1, 1)))
	l = opened(t, d)
	says(t, "one among strangers", d, l, "{0 -1 0} 0/0[] 1/1/1=1.1")
	counts(t, "one among strangers", l, 1)
	holds(t, "nothing is written", d, ahead)
	save(t, l, nil, en(2, 1))
	ahead["wal-00000004"] = string(rec(en(2, 1)))
	holds(t, "a Save", d, ahead)
	cut(t, l, 2, 1)
	for _, name := range []string{"wal-00000003", "wal-00000004", "wal.new"} {
		delete(ahead, name)
	}
	ahead["wal-00000005"] = string(rec(meta(2, 1), api.Hard{Vote: -1}))
	holds(t, "a Cut", d, ahead)
}

func TestP301FilesGoByTheirNumbers(t *testing.T) {
	numbers := []int{1, 2, 9, 10, 11, 99, 100, 2345, 99999, 100000, 10000000, 99999999}
	d := made(t, 1<<20)
	for _, i := range rand.New(rand.NewSource(1)).Perm(len(numbers)) {
		lay(t, d, fmt.Sprintf("wal-%08d", numbers[i]), rec(en(i+1, 1), api.Hard{Term: i}))
	}
	ops := d.Ops()
	l := opened(t, d)
	if got, want := told(l.State()), told(wal.State{Hard: api.Hard{Term: 11}, Entries: run(1, 12, 1)}); got != want {
		t.Errorf("%s, not %s", got, want)
	}
	counts(t, "with gaps between", l, 12)
	if d.Ops() != ops {
		t.Errorf("Open did %d operations", d.Ops()-ops)
	}
}

func TestP301AnEntryGoesOnAcrossFiles(t *testing.T) {
	d := made(t, 1<<20)
	lay(t, d, "wal-00000001", rec(en(1, 1), en(2, 1), en(3, 1)))
	lay(t, d, "wal-00000002", nil)
	lay(t, d, "wal-00000003", rec(en(2, 2)))
	lay(t, d, "wal-00000004", rec(en(4, 2)))
	l := opened(t, d)
	says(t, "dropped in a later file", d, l, "{0 -1 0} 0/0[] 1/1/1=1.1 2/2/2=2.2")
	counts(t, "an empty one counts", l, 4)
}

// broken are bytes that are no whole record.
func broken() map[string][]byte {
	h, e, m := bare(api.Hard{Term: 4, Vote: 4, Commit: 4}), bare(en(2, 2)), bare(meta(1, 1, 3, 4))
	all := map[string][]byte{
		"no bytes in it": framed(nil), "a sum that does not fit": {0, 0, 0, 0, 0, 0, 0, 1}, "a length above 2^24": {1, 0, 0, 1, 0, 0, 0, 0, 1},
		"a Data longer than it": framed(slices.Concat(e[:18], []byte{0, 0, 0, 4}, e[22:])), "a Data shorter than it": framed(slices.Concat(e[:18], []byte{0, 0, 0, 2}, e[22:])),
		"a Data much longer": framed(slices.Concat(e[:18], []byte{255, 255, 255, 255}, e[22:])),
		"one voter less":     framed(slices.Concat(m[:17], []byte{1}, m[18:])), "one voter more": framed(slices.Concat(m[:17], []byte{3}, m[18:])),
	}
	for _, b := range [][]byte{h, e, m} {
		whole := framed(b)
		for i := range whole {
			turned := slices.Clone(whole)
			turned[i] ^= 64
			all[fmt.Sprintf("%d: turned at %d", b[0], i)] = turned
			all[fmt.Sprintf("%d: the last %d lack", b[0], i+1)] = whole[:max(len(whole)-1-i, 1)]
		}
		for i := range b {
			all[fmt.Sprintf("%d: %d bytes too few", b[0], len(b)-i)] = framed(b[:i])
		}
		for _, more := range [][]byte{{0}, {1}, number(1), framed(b)} {
			all[fmt.Sprintf("%d: %x too many", b[0], more)] = framed(slices.Concat(b, more))
		}
		for mark := 4; mark < 256; mark++ {
			all[fmt.Sprintf("%d: as a %d", b[0], mark)] = framed(slices.Concat([]byte{byte(mark)}, b[1:]))
		}
		all[fmt.Sprintf("%d: as a 0", b[0])] = framed(slices.Concat([]byte{0}, b[1:]))
	}
	for kind := 3; kind < 256; kind++ {
		all[fmt.Sprintf("Kind %d", kind)] = rec(api.Entry{Index: 2, Term: 2, Kind: kind})
	}
	for count := 8; count < 256; count++ {
		all[fmt.Sprintf("%d voters", count)] = rec(meta(1, 1, make([]int, count)...))
	}
	return all
}

func TestP301UpToTheFirstThatIsNotWhole(t *testing.T) {
	for what, b := range broken() {
		d := made(t, 1<<20)
		lay(t, d, "wal-00000001", slices.Concat(rec(en(1, 1)), b, rec(en(2, 3), api.Hard{Term: 3})))
		says(t, what, d, opened(t, d), "{0 -1 0} 0/0[] 1/1/1=1.1")
		lay(t, d, "wal-00000002", rec(en(2, 4)))
		says(t, what+", and a file behind it", d, opened(t, d), "{0 -1 0} 0/0[] 1/1/1=1.1 2/4/2=2.4")
	}
}

func TestP301AFirstRecordThatIsNotWhole(t *testing.T) {
	for what, b := range broken() {
		d := made(t, 1<<20)
		lay(t, d, "wal-00000001", rec(en(1, 1)))
		lay(t, d, "wal-00000002", slices.Concat(b, rec(meta(5, 5), en(6, 6))))
		lay(t, d, "wal-00000003", rec(en(2, 1)))
		says(t, what, d, opened(t, d), "{0 -1 0} 0/0[] 1/1/1=1.1 2/1/2=2.1")
	}
}

func TestP301WholeAtTheEdges(t *testing.T) {
	for kind := range 3 {
		if got, want := read(t, api.Entry{Index: 1, Term: 1, Kind: kind}), fmt.Sprintf("{0 -1 0} 0/0[] 1/1/%d=", kind); got != want {
			t.Errorf("%s, not %s", got, want)
		}
	}
	for count := range 8 {
		voters := make([]int, count)
		if got, want := read(t, meta(1, 1, voters...)), fmt.Sprintf("{0 -1 0} 1/1%v", voters); got != want {
			t.Errorf("%s, not %s", got, want)
		}
	}
	for _, size := range []int{0, 1, 65536, 65537, 1<<24 - 22} { // with 22 bytes ahead of it the last one is the longest frame
		e := api.Entry{Index: 1, Term: 1, Data: make([]byte, size)}
		d := made(t, 1<<25)
		lay(t, d, "wal-00000001", rec(e))
		if s := opened(t, d).State(); len(s.Entries) != 1 || len(s.Entries[0].Data) != size {
			t.Errorf("a Data of %d bytes: %s", size, told(s))
		}
	}
}

func TestP301FromTheNewestBaseOn(t *testing.T) {
	one, two := rec(api.Hard{Term: 1, Vote: 1, Commit: 1}, en(1, 1), en(2, 1), en(3, 1)), rec(meta(2, 1, 8), en(3, 2))
	for _, c := range []struct {
		what  string
		files [][]byte
		want  string
	}{
		{"nothing of the elder files", [][]byte{one, two}, "{0 -1 0} 2/1[8] 3/2/0=3.2"},
		{"all files behind it", [][]byte{one, two, rec(en(4, 2)), rec(api.Hard{Term: 5})}, "{5 0 0} 2/1[8] 3/2/0=3.2 4/2/1=4.2"},
		{"the newest of two", [][]byte{two, one, rec(meta(7, 7)), rec(en(8, 8))}, "{0 -1 0} 7/7[] 8/8/2=8.8"},
		{"the same base twice", [][]byte{two, rec(en(4, 2)), rec(meta(2, 1, 9))}, "{0 -1 0} 2/1[9]"},
		{"a base that is not the first record", [][]byte{one, rec(api.Hard{Term: 4}, meta(2, 1))}, "{4 0 0} 2/1[] 3/1/0=3.1"},
		{"two bases in one file", [][]byte{one, rec(meta(1, 1), en(2, 1), en(3, 1), meta(2, 1))}, "{0 -1 0} 2/1[] 3/1/0=3.1"},
		{"a base that is cut off", [][]byte{one, two[:25]}, "{1 1 1} 0/0[] 1/1/1=1.1 2/1/2=2.1 3/1/0=3.1"},
		{"junk ahead of a base", [][]byte{one, slices.Concat([]byte{0}, two)}, "{1 1 1} 0/0[] 1/1/1=1.1 2/1/2=2.1 3/1/0=3.1"},
		{"an empty file ahead, and behind", [][]byte{nil, two, nil}, "{0 -1 0} 2/1[8] 3/2/0=3.2"},
		{"none such", [][]byte{one, rec(en(4, 1)), rec(en(5, 1))}, "{1 1 1} 0/0[] 1/1/1=1.1 2/1/2=2.1 3/1/0=3.1 4/1/1=4.1 5/1/2=5.1"},
	} {
		d := made(t, 1<<20)
		for i, b := range c.files {
			lay(t, d, fmt.Sprintf("wal-%08d", 2*i+3), b)
		}
		l := opened(t, d)
		says(t, c.what, d, l, c.want)
		counts(t, c.what, l, len(c.files))
	}
}

func TestP301ADiskThatHasStopped(t *testing.T) {
	d, l := fresh(t)
	save(t, l, nil, en(1, 1))
	d.Stop(1)
	d.Sync("wal-00000001")
	l, s, err := wal.Open(d)
	if l != nil || !reflect.DeepEqual(s, wal.State{}) || err != api.ErrDead {
		t.Errorf("%v, %v, %v", l, s, err)
	}
	d.Crash()
	says(t, "behind a crash", d, opened(t, d), "{0 -1 0} 0/0[] 1/1/1=1.1")
}

func TestP301OpenIsNoOperation(t *testing.T) {
	d, l := fresh(t)
	save(t, l, nil, en(1, 1))
	d.Stop(1)
	opened(t, d)
	is(t, "the next operation", d.Sync("wal-00000001"), api.ErrDead)
}

func FuzzOpen(f *testing.F) {
	f.Add(rec(en(1, 1), en(2, 1), api.Hard{Term: 1}), rec(meta(1, 1, 2), en(2, 2)))
	f.Add(rec(meta(3, 1))[:20], []byte{})
	f.Fuzz(func(t *testing.T, one, two []byte) {
		d := made(t, 1<<30)
		lay(t, d, "wal-00000001", one)
		lay(t, d, "wal-00000002", two)
		l := opened(t, d)
		s := l.State()
		for i, e := range s.Entries {
			if e.Index != s.Meta.Index+1+i {
				t.Fatalf("entries not one behind the other: %s", told(s))
			}
		}
		if s.Meta.Index >= 1<<62 { // beyond the limits
			return
		}
		cut(t, l, max(s.Meta.Index, 1), 7)
		save(t, l, nil, en(max(s.Meta.Index, 1)+1, 8))
		says(t, "behind a Cut and a Save", d, l, told(l.State()))
	})
}
