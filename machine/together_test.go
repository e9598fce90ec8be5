package machine

import (
	"fmt"
	"math"
	"math/rand"
	"slices"
	"strings"
	"testing"

	"horologe/api"
	"horologe/folk"
	"horologe/lease"
)

// oldCase is what a store that is compacted at its end, and clients that were told something, leave.
type oldCase struct {
	what      string
	revisions []string
	replies   []string // "2 1:a.1.1.1 0": at 2, with two results
	want      bool
}

func (c oldCase) try(t *testing.T) {
	t.Helper()
	p := parts{store: storeOf(t, c.revisions...)}
	p.store.Compact(len(c.revisions))
	for turn := range 2 { // which client was told what does not matter
		p.rows = nil
		for i := range c.replies {
			at, text, _ := strings.Cut(c.replies[i], " ")
			if turn == 1 {
				at, text, _ = strings.Cut(c.replies[len(c.replies)-1-i], " ")
			}
			r := api.Reply{Then: true, Results: told(text)}
			fmt.Sscan(at, &r.Rev)
			p.rows = append(p.rows, rowOf(i+1, 1, r))
		}
		if got := taken(t, p.bytes()); got != c.want {
			t.Errorf("%s: %v", c.what, got)
		}
	}
}

// keys32 tells so many keys, as storeOf takes them.
func keys32(letter string, n int) string { return ks(letter+"%02d", 0, n, 1) }

// list tells keys as results do, each as it was.
func list(n int, keys, as string) string {
	return fmt.Sprint(n, ":", strings.ReplaceAll(keys, " ", as+","), as)
}

// TestP1203VersionsAskForRoom: what keys were put by which revision is not known, but all of them need room.
func TestP1203VersionsAskForRoom(t *testing.T) {
	between := func(a, b int) []string { // a's are put by the second or the third, where b's are
		return []string{keys32("a", a), keys32("b", b) + " " + keys32("a", a), keys32("b", b), keys32("a", a)}
	}
	apart := func(a int, second, third, fourth string) []string { // the second and the fourth are full
		return []string{keys32("a", a), keys32("b", 32) + second, "x" + third, keys32("c", 32) + fourth, keys32("a", a)}
	}
	again := " " + keys32("a", 31)
	for _, c := range []oldCase{
		{"no room at all", between(32, 32), nil, false}, {"room for all", between(32, 16), nil, true}, {"for all but one", between(31, 17), nil, false}, {"for one less", between(30, 17), nil, true}, {"one for one", between(2, 31), nil, true}, {"one for two", between(3, 31), nil, false}, {"room, but one too many", between(1, 32), nil, false},
		{"one full on each side", apart(31, again, "", ""), nil, true}, {"once more than the one between", apart(31, again, again, ""), nil, false}, {"by all three", apart(31, again, again, again), nil, false}, {"by the one between", apart(31, "", again, ""), nil, true},
		{"a few, once more than the one between", apart(10, again[:40], again[:40], ""), nil, false}, {"a few, by the one between", apart(10, "", again[:40], ""), nil, true},
		{"many, over many revisions", []string{keys32("a", 32), keys32("a", 32), keys32("b", 32), keys32("a", 32), keys32("b", 32), keys32("a", 32)}, nil, true},
		{"one too many, over many revisions", []string{keys32("a", 32), keys32("a", 32), keys32("b", 32) + " a00", keys32("a", 32), keys32("b", 32), keys32("a", 32)}, nil, false},
	} {
		c.try(t)
	}
}

// TestP1203VersionsOfWhatWentAskForRoom: keys that are told of, and gone by now, were put as well.
func TestP1203VersionsOfWhatWentAskForRoom(t *testing.T) {
	for n, want := range map[int]bool{15: true, 16: true, 17: false, 32: false} { // each b was put by the second or the third; each of these put 24 c's
		revisions := []string{keys32("b", n), keys32("c", 24), keys32("c", 24), "b00", keys32("-b", n)}
		oldCase{fmt.Sprint(n), revisions, []string{"4 " + list(n, keys32("b", n), ".1.4.3")}, want && n <= 16}.try(t)
	}
	for n, want := range map[int]bool{16: true, 17: false} { // they were created by a revision of 16 others
		oldCase{fmt.Sprint(n, " new ones"), []string{"x", keys32("c", 16), "-x"}, []string{"2 " + list(n, keys32("b", n), ".2.2.1")}, want}.try(t)
	}
}

// gone48 are revisions that put 96 keys, and delete every other one of the first n of them.
func gone48(n int, form string) []string {
	return []string{ks("k%02d", 0, 32, 1), ks("k%02d", 32, 64, 1), ks("k%02d", 64, 96, 1), ks(form, 0, 2*n, 2)}
}

// told96 tells all 96 keys at the third revision, those at even places as they are written.
func told96(even string) string {
	var l []string
	for i := range 96 {
		as := ""
		if i%2 == 0 {
			as = even
		}
		l = append(l, fmt.Sprintf("k%02d%s.%d.%[3]d.1", i, as, i/32+1))
	}
	return "3 96:" + strings.Join(l, ",")
}

// TestP1203WhatWentAsksForRoom: keys that lay apart went by an operation each.
func TestP1203WhatWentAsksForRoom(t *testing.T) {
	all := []string{told96("")}
	two := append(gone48(24, "-k%02d"), ks("-k%02d", 48, 96, 2))
	for _, c := range []oldCase{
		{"32 apart", gone48(32, "-k%02d"), all, true}, {"33 apart", gone48(33, "-k%02d"), all, false}, {"48 apart, of which nobody was told", gone48(48, "-k%02d"), nil, true}, {"48 by two revisions", two, all, true},
		{"31, and a put", append(gone48(31, "-k%02d")[:3], "x "+ks("-k%02d", 0, 62, 2)), all, true}, {"32, and a put", append(gone48(32, "-k%02d")[:3], "x "+ks("-k%02d", 0, 64, 2)), all, false}, {"all of them", append(gone48(0, "")[:3], ks("-k%02d", 0, 96, 1)), all, true},
		{"by two revisions, which have no room for all", append(gone48(24, "-k%02d")[:3], keys32("a", 16)+" "+ks("-k%02d", 0, 48, 2), keys32("b", 17)+" "+ks("-k%02d", 48, 96, 2)), all, false}, {"for all", append(gone48(24, "-k%02d")[:3], keys32("a", 8)+" "+ks("-k%02d", 0, 48, 2), keys32("b", 8)+" "+ks("-k%02d", 48, 96, 2)), all, true},
		{"with puts of the one or the other", append(gone48(24, "-k%02d")[:3], keys32("a", 8)+" "+ks("-k%02d", 0, 48, 2), keys32("a", 8)+" "+ks("-k%02d", 48, 96, 2), keys32("a", 8)), all, true},
	} {
		c.try(t)
	}
}

// TestP1203WhatWentWithLeases needs no room, if all keys of a lease went.
func TestP1203WhatWentWithLeases(t *testing.T) {
	seven := func(results []api.Result, every int) []api.Result {
		for i := range results[0].KVs {
			if i%every == 0 {
				results[0].KVs[i].Lease = 7 + i/every%2*(every/4)
			}
		}
		return results
	}
	for _, c := range []struct {
		what      string
		revisions []string
		turn      func(results []api.Result) []api.Result
		clock     int
		want      bool
	}{
		{"none", gone48(48, "-k%02d"), func(l []api.Result) []api.Result { return l }, 0, false}, {"all of one", gone48(48, "-k%02d"), func(l []api.Result) []api.Result { return seven(l, 2) }, 0, true}, {"and a put", append(gone48(0, "")[:3], "x "+ks("-k%02d", 0, 96, 2)), func(l []api.Result) []api.Result { return seven(l, 2) }, 0, false},
		{"one of none", gone48(48, "-k%02d"), func(l []api.Result) []api.Result { l = seven(l, 2); l[0].KVs[10].Lease = 0; return l }, 0, false}, {"one of none, later", gone48(48, "-k%02d"), func(l []api.Result) []api.Result { l = seven(l, 2); l[0].KVs[10].Lease = 0; return l }, 1, false}, {"two, ahead of the first minute's end", gone48(48, "-k%02d"), func(l []api.Result) []api.Result { l = seven(l, 2); l[0].KVs[10].Lease = 8; return l }, 0, false}, {"two, behind it", gone48(48, "-k%02d"), func(l []api.Result) []api.Result { l = seven(l, 2); l[0].KVs[10].Lease = 8; return l }, 1, true},
	} {
		_, text, _ := strings.Cut(told96(""), " ")
		p := parts{clock: c.clock, store: storeOf(t, c.revisions...), rows: []folk.Row{rowOf(1, 1, api.Reply{Rev: 3, Results: c.turn(told(text))})}}
		p.store.Compact(4)
		if got := taken(t, p.bytes()); got != c.want {
			t.Errorf("%s: %v", c.what, got)
		}
	}
	held := gone48(48, "-k%02d")
	held[2] = strings.Replace(held[2], "k95", "k95@7", 1) // one key that stays has it
	_, text, _ := strings.Cut(told96(""), " ")
	results := seven(told(text), 2)
	results[0].KVs[95].Lease = 7
	p := parts{leases: []lease.Lease{at(7, 5, 0)}, store: storeOf(t, held...), rows: []folk.Row{rowOf(1, 1, api.Reply{Rev: 3, Results: results})}}
	p.store.Compact(4)
	if taken(t, p.bytes()) {
		t.Error("a key that had the lease stays")
	}
}

// TestP1203WhatOneOperationDeleted lay side by side.
func TestP1203WhatOneOperationDeleted(t *testing.T) {
	abc, abcde := "1 3:a.1.1.1,b.1.1.1,c.1.1.1", "1 5:a.1.1.1,b.1.1.1,c.1.1.1,d.1.1.1,e.1.1.1"
	three, five := "a b c", "a b c d e"
	for _, c := range []oldCase{
		{"two that lay apart", []string{three, "-a -c"}, []string{abc, "2 2"}, false}, {"by one each", []string{three, "-a -c"}, []string{abc, "2 1 1"}, true}, {"by one for three", []string{three, "-a -c"}, []string{abc, "2 3"}, false}, {"one of three, and one", []string{three, "-a -c"}, []string{abc, "2 3 1"}, true}, {"two side by side", []string{three, "-a -b"}, []string{abc, "2 2"}, true}, {"and one that is not known", []string{three, "-a -b"}, []string{abc, "2 3"}, true}, {"all three", []string{three, "-a -b -c d"}, []string{abc, "2 3 0"}, true},
		{"a revision later", []string{three, "x", "-a -c -x"}, []string{abc, "3 2"}, true}, {"and it was told again", []string{three, "x", "-a -c -x"}, []string{abc, "2 3:a.1.1.1,b.1.1.1,c.1.1.1", "3 2"}, false}, {"a revision that had no room later", []string{three, keys32("k", 32), "-a -c"}, []string{abc, "3 2"}, false}, {"that had room", []string{three, keys32("k", 31), "-a -c"}, []string{abc, "3 2"}, true},
		{"what lay between two, and another one", []string{three, "-b"}, []string{abc, "2 2"}, false}, {"alone", []string{three, "-b"}, []string{abc, "2 1"}, true}, {"and another one elsewhere", []string{three, "-b"}, []string{abc, "2 1 1"}, true}, {"which is two", []string{three, "-b"}, []string{abc, "2 2 1"}, true}, {"and it was told by itself", []string{three, "-b"}, []string{"2 3:a.1.1.1,b.1.1.1,c.1.1.1 2"}, false}, {"alone, and told by itself", []string{three, "-b"}, []string{"2 3:a.1.1.1,b.1.1.1,c.1.1.1 1"}, true}, {"told without its neighbours", []string{three, "-b"}, []string{"1 1:b.1.1.1", "2 2"}, true}, {"told with one of them", []string{three, "-b"}, []string{"1 2:a.1.1.1,b.1.1.1", "2 2"}, true},
		{"told ahead of other puts", []string{three, "-b"}, []string{"1 0 0 0 3:a.1.1.1,b.1.1.1,c.1.1.1 0", "2 2"}, true}, {"that were ahead of it", []string{three, "-b"}, []string{"1 0 0 0 0 3:a.1.1.1,b.1.1.1,c.1.1.1", "2 2"}, false},
		{"two and two", []string{five, "-a -b -d -e"}, []string{abcde, "2 2 2"}, true}, {"four", []string{five, "-a -b -d -e"}, []string{abcde, "2 4"}, false}, {"three and one", []string{five, "-a -b -d -e"}, []string{abcde, "2 3 1"}, false}, {"three and one, when they had to wait", []string{five, keys32("k", 32), "-a -b -d -e"}, []string{abcde, "3 3 1"}, false}, {"when they had not", []string{five, keys32("k", 31), "-a -b -d -e"}, []string{abcde, "3 3 1"}, true}, {"three and two", []string{five, "-a -b -d -e"}, []string{abcde, "2 3 2"}, true}, {"one, two and one", []string{five, "-a -b -d -e"}, []string{abcde, "2 1 2 1"}, true}, {"one by one", []string{five, "-a -b -d -e"}, []string{abcde, "2 1 1 1 1"}, true}, {"one less", []string{five, "-a -b -d -e"}, []string{abcde, "2 1 1 1"}, false}, {"with what is between put", []string{five, "-a -b c -d -e"}, []string{abcde, "2 2 1 2"}, true}, {"in any order", []string{five, "-a -b c -d -e"}, []string{abcde, "2 1 2 2"}, true}, {"with too few for that", []string{five, "-a -b c -d -e"}, []string{abcde, "2 2 2"}, false},
		{"three of which all went by then", []string{"A " + three + " d", "-a", "-b -c", "x"}, []string{"1 5:A.1.1.1,a.1.1.1,b.1.1.1,c.1.1.1,d.1.1.1", "2 1", "3 1", "3 2:A.1.1.1,d.1.1.1"}, false}, {"by one more", []string{"A " + three + " d", "-a", "-b -c", "x"}, []string{"1 5:A.1.1.1,a.1.1.1,b.1.1.1,c.1.1.1,d.1.1.1", "2 1", "3 2", "3 2:A.1.1.1,d.1.1.1"}, true},
		{"by two revisions", []string{five, "-a -b", "-d -e"}, []string{abcde, "2 2", "3 2"}, true}, {"of which one deletes one", []string{five, "-a -b", "-d -e"}, []string{abcde, "2 1", "3 2"}, false}, {"of which one deletes three", []string{five, "-a -b", "-d -e"}, []string{abcde, "2 3", "3 2"}, true}, {"three in all", []string{three + " d", "-a -b", "-c"}, []string{"1 4:a.1.1.1,b.1.1.1,c.1.1.1,d.1.1.1", "2 1", "3 1"}, false},
	} {
		c.try(t)
	}
}

// TestP1203WhoFoundARevisionMade knows what lay beside what: whoever made it may have put more behind that.
func TestP1203WhoFoundARevisionMade(t *testing.T) {
	for _, c := range []struct {
		first string
		time  int
		want  bool
	}{{"0", 0, true}, {"0", 1, false}, {"0 0 2:a.1.1.1,c.1.1.1 0", 0, false}} {
		p := parts{clock: 1, store: storeOf(t, "a b c", "-b")}
		p.rows = []folk.Row{rowOf(1, 1, api.Reply{Rev: 1, Results: told(c.first)}), rowOf(2, 1, api.Reply{Rev: 1, Time: c.time, Results: told("0 3:a.1.1.1,b.1.1.1,c.1.1.1 0 0 0")}), rowOf(3, 1, api.Reply{Rev: 2, Time: 1, Results: told("2")})}
		p.store.Compact(2)
		if got := taken(t, p.bytes()); got != c.want {
			t.Errorf("%+v: %v", c, got)
		}
	}
}

// TestP1203KeysOfWhichNothingIsTold: how many there were is told, and that they went.
func TestP1203KeysOfWhichNothingIsTold(t *testing.T) {
	k31 := keys32("k", 31)
	for _, c := range []oldCase{
		{"one more than is known", []string{k31, "-k00"}, []string{"1 32:k00.1.1.1"}, true}, {"there is no room for it to be put", []string{keys32("k", 32), "a"}, []string{"1 33:k00.1.1.1"}, false}, {"there is, by the next one", []string{keys32("k", 32), "a"}, []string{"2 34:a.2.2.1,k00.1.1.1"}, false},
		{"there is no room for it to go", []string{k31, keys32("a", 32)}, []string{"1 32:k00.1.1.1"}, false}, {"there is", []string{k31, keys32("a", 31)}, []string{"1 32:k00.1.1.1"}, true}, {"there is, as it lies beside another one that goes", []string{k31, keys32("a", 31) + " -k30"}, []string{"1 32:k00.1.1.1,k01.1.1.1", "1 1:k30.1.1.1"}, true}, {"it does not lie beside it", []string{"z " + keys32("k", 30), keys32("a", 31) + " -k00"}, []string{"1 2:z.1.1.1", "1 1:k00.1.1.1"}, false},
		{"one that is known went", []string{keys32("k", 32), keys32("a", 31) + " -k15", keys32("b", 32), "x", "-x"}, []string{"1 1:k15.1.1.1", "2 2:k14.1.1.1,k16.1.1.1", "3 32:k00.1.1.1"}, false}, {"and there was room for another one", []string{keys32("k", 32), keys32("a", 30) + " -k15", keys32("b", 32), "x", "-x"}, []string{"1 1:k15.1.1.1", "2 2:k14.1.1.1,k16.1.1.1", "3 32:k00.1.1.1"}, true}, {"and that one went later", []string{keys32("k", 32), keys32("a", 31), keys32("b", 32), "-k15"}, []string{"1 1:k15.1.1.1", "3 32:k00.1.1.1"}, true},
		{"what was deleted was there", []string{k31, "x", "-x"}, []string{"2 1"}, true}, {"more of it than there was room for", []string{k31, "x", "-x"}, []string{"2 2"}, false}, {"as much as there was room for", []string{keys32("k", 30), "x", "-x"}, []string{"2 2 0"}, true}, {"and nothing is left to be done", []string{keys32("k", 30), "x", "-x"}, []string{"2 2"}, false}, {"what was deleted is not found any more", []string{keys32("k", 30), "x", "-x"}, []string{"2 2 0", "2 32:k00.1.1.1"}, false}, {"what came since is", []string{keys32("k", 30), "x", "-x"}, []string{"2 2 0", "2 31:k00.1.1.1"}, true}, {"what was left is", []string{keys32("k", 29), "x", "-x"}, []string{"2 2", "2 30:k00.1.1.1"}, true}, {"and no more", []string{keys32("k", 29), "x", "-x"}, []string{"2 2", "2 31:k00.1.1.1"}, false}, {"nor deleted again", []string{keys32("k", 30), "x", "-x"}, []string{"2 2", "3 1"}, false}, {"but what came since", []string{keys32("k", 30), "x", "-x"}, []string{"2 2 0", "3 1"}, true}, {"but what was left", []string{keys32("k", 29), "x", "-x"}, []string{"2 2", "3 1"}, true},
	} {
		c.try(t)
	}
}

// TestP1203RoomForAllKeys: those that are known to lie ahead of others that were found count, too.
func TestP1203RoomForAllKeys(t *testing.T) {
	for n, want := range map[int]bool{4095: true, 4096: false} {
		oldCase{fmt.Sprint(n), slices.Repeat([]string{"a"}, 202), []string{fmt.Sprintf("200 %d:b.1.1.1", n)}, want}.try(t)
	}
}

// TestP1203RevisionsWithNothingToDo: each did something, if only to keys of which nothing is known.
func TestP1203RevisionsWithNothingToDo(t *testing.T) {
	ones := strings.Repeat(" 1", 32)
	full := keys32("k", 32)
	for _, c := range []oldCase{
		{"with what is put later to be deleted", []string{full, "x", full + " -x"}, []string{"3" + ones}, false}, {"and an operation more", []string{keys32("k", 31), "x", keys32("k", 31) + " -x"}, []string{"3" + ones}, true}, {"with puts that may be its own", []string{full, full, "x", full + " -x"}, []string{"4" + ones}, true},
		{"of which the one ahead has all", []string{full, full, "x", full + " -x"}, []string{"2" + ones, "4" + ones}, false}, {"of which it has all but one", []string{full, keys32("k", 31), "k31", full}, []string{"4" + ones}, true},
		{"as all that was there went", []string{"f x", "-f -x", "y", "-y"}, []string{"1 1:f.1.1.1", "2 2"}, true}, {"behind it", []string{"f x", "-f -x y", "-y"}, []string{"1 1:f.1.1.1", "2 2"}, true}, {"and it was full", []string{full, ks("-k%02d", 0, 32, 1) + " y", "-y"}, []string{"1 1:k00.1.1.1", "2 32"}, false}, {"and it was not", []string{keys32("k", 31), ks("-k%02d", 0, 31, 1) + " y", "-y"}, []string{"1 1:k00.1.1.1", "2 31"}, true},
	} {
		c.try(t)
	}
}

// TestP1203LeasesThatWereThereTogether are 1024 at most, also if several clients were told of them.
func TestP1203LeasesThatWereThereTogether(t *testing.T) {
	for _, c := range []struct {
		counts []int
		revs   []int
		want   bool
	}{{[]int{512, 512}, []int{39, 39}, true}, {[]int{513, 512}, []int{39, 39}, false}, {[]int{400, 400, 225}, []int{39, 39, 39}, false}, {[]int{513, 512}, []int{38, 39}, false}, {[]int{513, 512}, []int{20, 39}, true}, {[]int{1000}, []int{39}, true}} {
		p := parts{store: storeOf(t, slices.Repeat([]string{"x"}, 40)...)}
		id := 0
		for i, n := range c.counts {
			var r api.Reply
			for range n {
				kv := api.KV{Key: fmt.Sprintf("k%04d", id), Create: id/31 + 1, Mod: id/31 + 1, Version: 1, Lease: id + 1}
				r.Results = append(r.Results, api.Result{N: 1, KVs: []api.KV{kv}})
				id++
			}
			r.Rev, r.Results = c.revs[i], []api.Result{{N: n, KVs: slices.Concat(kvsOf(r.Results)...)}}
			p.rows = append(p.rows, rowOf(i+1, 1, r))
		}
		p.store.Compact(40)
		if got := taken(t, p.bytes()); got != c.want {
			t.Errorf("%+v: %v", c.counts, got)
		}
	}
}

func kvsOf(results []api.Result) [][]api.KV {
	var all [][]api.KV
	for _, x := range results {
		all = append(all, x.KVs)
	}
	return all
}

// TestP1203KeysThatThereAreNoTextsFor: behind the last texts of all there is no room.
func TestP1203KeysThatThereAreNoTextsFor(t *testing.T) {
	ff := func(n int) string { return strings.Repeat("\xff", n) }
	for _, c := range []struct {
		key  string
		n    int
		want bool
	}{
		{ff(100), 1, true}, {ff(100), 2, false}, {ff(99) + "\xfe", 2, true}, {ff(99) + "\xfe", 3, false}, {ff(99) + "\x00", 256, true}, {ff(99) + "\x00", 257, false}, {ff(99), 257, true}, {ff(99), 258, false}, {ff(98) + "\xfe" + "\xff", 258, true}, {ff(98) + "\xfe" + "\xff", 259, false}, {ff(98) + "\xfe", 514, true}, {ff(98) + "\xfe", 515, false}, {ff(98), 900, true}, {ff(50), 900, true}, {"a", 900, true}, {ff(98) + "\x00\x00", 900, true},
	} {
		kv := api.KV{Key: c.key, Value: "v", Create: 1, Mod: 1, Version: 1}
		p := parts{store: storeOf(t, slices.Repeat([]string{"x"}, 40)...), rows: []folk.Row{rowOf(1, 1, api.Reply{Rev: 39, Results: []api.Result{{N: c.n, KVs: []api.KV{kv}}}})}}
		p.store.Compact(40)
		if got := taken(t, p.bytes()); got != c.want {
			t.Errorf("%x, %d: %v", c.key, c.n, got)
		}
	}
}

// TestP1203WhateverWasAnswered: replies that are drawn, and mostly can't be, are looked at without harm, and the same way each time.
func TestP1203WhateverWasAnswered(t *testing.T) {
	odd := []int{0, 0, 1, 1, 2, 3, 4, 32, 33, 4065, 4096, 4097, -1, 1 << 40, 1 << 61, math.MaxInt, math.MinInt}
	for seed := range int64(1500) {
		d := rand.New(rand.NewSource(seed))
		p := parts{clock: d.Intn(3), store: storeOf(t, "a b c@1", "b d", "-a -b e", "c -d -e f", "g", "f")}
		p.store.Compact(d.Intn(7))
		number := func() int {
			if d.Intn(4) == 0 {
				return odd[d.Intn(len(odd))]
			}
			return d.Intn(6)
		}
		for client := range 1 + d.Intn(8) {
			r := api.Reply{Rev: d.Intn(7), Then: d.Intn(2) == 0, Time: d.Intn(3), Err: []api.Errno{0, 0, 0, 0, 0, 0, api.ErrFull, api.ErrPast}[d.Intn(8)]}
			for range d.Intn(4) {
				x := api.Result{N: number()}
				for _, key := range strings.Split("abcdefg", "")[d.Intn(7):] {
					if kv := (api.KV{Key: key, Value: "v", Create: 1, Mod: 1, Version: 1}); d.Intn(3) == 0 {
						if d.Intn(3) > 0 {
							kv.Create = 1 + d.Intn(6)
							kv.Mod = kv.Create + d.Intn(3)
							kv.Version = 1 + d.Intn(kv.Mod-kv.Create+1)
						} else if d.Intn(3) == 0 {
							kv.Create, kv.Mod, kv.Version, kv.Lease = number(), number(), number(), number()
						}
						x.KVs = append(x.KVs, kv)
					}
				}
				x.N = max(x.N, len(x.KVs))
				r.Results = append(r.Results, x)
			}
			p.rows = append(p.rows, rowOf(client+1, 1, r))
		}
		b := p.bytes()
		want := taken(t, b)
		for range 3 {
			if taken(t, b) != want {
				t.Fatalf("seed %d: taken, and refused", seed)
			}
		}
	}
}

// TestP1203PastsThatAreTooLongToCount: what may be is taken.
func TestP1203PastsThatAreTooLongToCount(t *testing.T) {
	for _, rev := range []int{1 << 39, 1 << 40, 1<<40 + 1, 1 << 61} {
		for version, want := range map[int]bool{1: false, 2: true, rev / 2: true, rev: true, rev + 1: false} {
			base := []api.KV{{Key: "a", Create: 1, Mod: rev, Version: version}}
			if got := couldBePut(base[0]) && couldBeCompacted(limitsOfAll(), rev, 0, base, nil); got != want {
				t.Errorf("at %d, Version %d: %v", rev, version, got)
			}
		}
	}
	var base []api.KV
	n := 1100
	for i := range n { // each revision in the midst has room for one of them, all others are full
		base = append(base, api.KV{Key: fmt.Sprintf("k%04d", i), Create: i + 1, Mod: 2*n + i + 1, Version: 3})
	}
	for i := range 3 * n {
		base = append(base, api.KV{Key: fmt.Sprintf("x%04d", i), Create: i + 1, Mod: i + 1, Version: 1})
	}
	if !couldBeCompacted(limits{2, 5000}, 3*n, 0, base, nil) {
		t.Error("many keys, with room for all")
	}
	for n, want := range map[int]bool{100: true, 101: false} { // the midst has a hundred
		base = nil
		for i := range n {
			base = append(base, api.KV{Key: fmt.Sprintf("k%04d", i), Create: i + 1, Mod: 100 + n + i + 1, Version: 3})
		}
		if got := couldBeCompacted(limits{1, 4096}, 100+2*n, 0, base, nil); got != want {
			t.Errorf("%d keys: %v", n, got)
		}
	}
}

// TestP1203ManyLivesThatEnded: one of them can have been what a revision deleted.
func TestP1203ManyLivesThatEnded(t *testing.T) {
	var revisions []string
	var r api.Reply
	for from := 0; from < 1100; from += 32 {
		revisions = append(revisions, ks("k%04d", from, min(from+32, 1100), 1))
	}
	p := parts{store: storeOf(t, append(revisions, "x", ks("-k%04d", 0, 1100, 1), "y")...)}
	all, _, _ := p.store.Range("k", "l", 35, 0)
	r.Rev, r.Results = 35, []api.Result{{N: 1100, KVs: all}}
	p.rows = []folk.Row{rowOf(1, 1, r)}
	p.store.Compact(38)
	if !taken(t, p.bytes()) {
		t.Error("refused")
	}
}
