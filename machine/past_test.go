package machine

import (
	"fmt"
	"slices"
	"strings"
	"testing"

	"horologe/api"
	"horologe/folk"
	"horologe/lease"
	"horologe/mvcc"
)

// storeOf makes a store by writes, whether commands can do that or not. A revision is a text of keys: "a" and, with lease 7, "a@7" are put, of "-a" a is deleted.
func storeOf(t *testing.T, revisions ...string) *mvcc.Store {
	t.Helper()
	s := mvcc.New()
	for i, text := range revisions {
		w := s.Write()
		for _, op := range strings.Fields(text) {
			if key, is := strings.CutPrefix(op, "-"); is {
				if w.Delete(key, "") != 1 {
					t.Fatalf("revision %d: %s is not there", i+1, key)
				}
				continue
			}
			key, id, lease := op, 0, ""
			if key, lease, _ = strings.Cut(op, "@"); lease != "" {
				fmt.Sscan(lease, &id)
			}
			if err := w.Put(key, "v", id); err != api.OK {
				t.Fatalf("revision %d: %s: %v", i+1, op, err)
			}
		}
		if w.Done() != i+1 {
			t.Fatalf("revision %d changes nothing", i+1)
		}
	}
	return s
}

// ks tells k00, k01 and so on, from one to ahead of another, each so many behind the one ahead of it, written by a form.
func ks(form string, from, to, step int) string {
	var l []string
	for i := from; i < to; i += step {
		l = append(l, fmt.Sprintf(form, i))
	}
	return strings.Join(l, " ")
}

// hundred are revisions that put k00 to k99, in order; of those at places that step divides with a lease.
func hundred(step, lease int) []string {
	var l []string
	for from := 0; from < 100; from += 25 {
		var keys []string
		for i := from; i < from+25; i++ {
			key := fmt.Sprintf("k%02d", i)
			if i%step == 0 && lease > 0 {
				key += fmt.Sprintf("@%d", lease)
			}
			keys = append(keys, key)
		}
		l = append(l, strings.Join(keys, " "))
	}
	return l
}

func backwards(text string) string {
	l := strings.Fields(text)
	slices.Reverse(l)
	return strings.Join(l, " ")
}

// TestP1203RevisionsOfOneTransaction: at most 32 operations, of which one can delete keys that lie side by side.
func TestP1203RevisionsOfOneTransaction(t *testing.T) {
	singles := ks("-k%02d", 0, 60, 2) // thirty
	for _, c := range []struct {
		what, last string
		want       bool
	}{
		{"32 puts", ks("n%d", 0, 32, 1), true}, {"33", ks("n%d", 0, 33, 1), false}, {"32 of keys that are there", ks("k%02d", 0, 32, 1), true}, {"33 of keys that are there", ks("k%02d", 0, 33, 1), false},
		{"31, and a deletion", ks("n%d", 0, 31, 1) + " -k50", true}, {"32, and one", ks("n%d", 0, 32, 1) + " -k50", false}, {"31, and many", ks("n%d", 0, 31, 1) + " " + ks("-k%02d", 0, 100, 1), true}, {"many, and 32", ks("-k%02d", 0, 100, 1) + " " + ks("n%d", 0, 32, 1), false},
		{"all go", ks("-k%02d", 0, 100, 1), true}, {"all go, backwards", backwards(ks("-k%02d", 0, 100, 1)), false}, {"32, backwards", backwards(ks("-k%02d", 0, 32, 1)), true}, {"33, backwards", backwards(ks("-k%02d", 0, 33, 1)), false},
		{"32 apart", ks("-k%02d", 0, 64, 2), true}, {"33 apart", ks("-k%02d", 0, 66, 2), false}, {"33, the last two side by side", ks("-k%02d", 0, 64, 2) + " -k63", true}, {"33, the last one apart", ks("-k%02d", 0, 64, 2) + " -k80", false}, {"33, and two in order", ks("-k%02d", 0, 62, 2) + " -k80 -k81", true},
		{"half of it, and the other half", ks("-k%02d", 0, 60, 2) + " " + ks("-k%02d", 1, 61, 2), true}, // what lay between has gone
		{"a put apart", singles + " -k90 -k91 x", true}, {"a put between two", singles + " -k90 -k91 k90x", false}, {"ahead of them", singles + " k90x -k90 -k91", false}, {"a put beside them", singles + " -k90 -k91 k91x", true},
		{"a put of what lies between", singles + " -k90 -k92", true}, {"and it is put", singles + " -k90 -k92 k91", false},
		{"what lies between goes first", singles + " -k71 -k70 -k72", true}, {"in the midst", singles + " -k70 -k71 -k72", true}, {"last", singles + " -k70 -k72 -k71", false},
	} {
		if got := taken(t, parts{store: storeOf(t, append(hundred(1, 0), c.last)...)}.bytes()); got != c.want {
			t.Errorf("%s: %v", c.what, got)
		}
	}
}

// TestP1203RevisionsOfLeasesThatEnd: with one lease all its keys go, rising, and nothing else; with several, if they can be over.
func TestP1203RevisionsOfLeasesThatEnd(t *testing.T) {
	even := ks("-k%02d", 0, 100, 2)
	for _, c := range []struct {
		what      string
		revisions []string
		clock     int
		leases    []lease.Lease
		want      bool
	}{
		{"keys of no lease", append(hundred(1, 0), even), 9, nil, false},
		{"all of one", append(hundred(2, 7), even), 0, nil, true}, {"one of them left", append(hundred(2, 7), ks("-k%02d", 2, 100, 2)), 0, []lease.Lease{at(7, 1, 0)}, false}, {"one more", append(hundred(2, 7), ks("-k%02d", 0, 98, 2)+" -k97 -k98"), 9, nil, false},
		{"backwards", append(hundred(2, 7), backwards(even)), 9, nil, false}, {"and a put", append(hundred(2, 7), even+" x"), 9, nil, false},
		{"it is there again", append(hundred(2, 7), even), 0, []lease.Lease{at(7, 5, 0)}, true}, {"and has keys again", append(hundred(2, 7), even, "k00@7"), 0, []lease.Lease{at(7, 5, 0)}, true},
	} {
		if got := taken(t, parts{clock: c.clock, leases: c.leases, store: storeOf(t, c.revisions...)}.bytes()); got != c.want {
			t.Errorf("%s: %v", c.what, got)
		}
	}
}

// twoLeases are revisions that put 80 keys apart from one another, of lease 7 and of lease 8, and one of lease 9; then all of 7 and 8 go together.
func twoLeases() []string {
	var l []string
	for from := 0; from < 80; from += 20 {
		var keys []string
		for i := from; i < from+20; i += 2 {
			keys = append(keys, fmt.Sprintf("k%02d@%d k%02d", i, 7+i/2%2, i+1))
		}
		l = append(l, strings.Join(keys, " "))
	}
	return append(l, "x@9", ks("-k%02d", 0, 80, 2))
}

func TestP1203RevisionsOfSeveralLeasesThatEnd(t *testing.T) {
	nine := func(ttl, now int) lease.Lease { return at(9, ttl, now) }
	later := append(twoLeases(), ks("k%02d@7", 0, 40, 2), ks("k%02d@8", 40, 80, 2), ks("-k%02d", 0, 80, 2)) // and once more
	for _, c := range []struct {
		what      string
		revisions []string
		clock     int
		leases    []lease.Lease
		reply     api.Reply
		want      bool
	}{
		{"at 1", twoLeases(), 1, []lease.Lease{nine(2, 0)}, api.Reply{}, true}, {"at 0 none is over", twoLeases(), 0, []lease.Lease{nine(2, 0)}, api.Reply{}, false},
		{"another one that was over", twoLeases(), 1, []lease.Lease{nine(1, 0)}, api.Reply{}, false}, {"that was renewed", twoLeases(), 1, []lease.Lease{nine(1, 1)}, api.Reply{}, true}, {"one without keys that was over", twoLeases(), 1, []lease.Lease{at(3, 1, 0), nine(2, 0)}, api.Reply{}, false}, {"that was not", twoLeases(), 1, []lease.Lease{at(3, 2, 0), nine(2, 0)}, api.Reply{}, true},
		{"one that ended, and did not", twoLeases(), 1, []lease.Lease{at(7, 9, 0), nine(2, 0)}, api.Reply{}, false}, {"that was granted again", twoLeases(), 1, []lease.Lease{at(7, 9, 1), nine(2, 0)}, api.Reply{}, true},
		{"a reply of 0 ahead of it", twoLeases(), 1, []lease.Lease{nine(2, 0)}, api.Reply{Rev: 5}, true}, {"a reply of 0 behind it", twoLeases(), 1, []lease.Lease{nine(2, 0)}, api.Reply{Rev: 6}, false}, {"of 1", twoLeases(), 1, []lease.Lease{nine(2, 0)}, api.Reply{Rev: 6, Time: 1}, true},
		{"a reply of 5 ahead of it", twoLeases(), 5, []lease.Lease{nine(5, 0)}, api.Reply{Rev: 5, Time: 5}, false}, {"and one that was not over then", twoLeases(), 5, []lease.Lease{nine(6, 0)}, api.Reply{Rev: 5, Time: 5}, true}, {"a reply of 5 behind it", twoLeases(), 5, []lease.Lease{nine(5, 0)}, api.Reply{Rev: 6, Time: 5}, true},
		{"once more, at 1", later, 1, []lease.Lease{nine(9, 0)}, api.Reply{}, false}, {"at 2", later, 2, []lease.Lease{nine(9, 0)}, api.Reply{}, true}, {"at 2, and 9 was over", later, 2, []lease.Lease{nine(2, 0)}, api.Reply{}, false}, {"at 2, with a reply of 1 behind all", later, 2, []lease.Lease{nine(9, 0)}, api.Reply{Rev: 9, Time: 1}, false},
		{"at 2, and 9 was granted behind it", append(slices.Clone(later[:4]), later[5:]...), 2, []lease.Lease{nine(1, 2)}, api.Reply{}, true},
	} {
		for compacted := range 6 { // ahead of the revision that matters
			if c.revisions[4] != "x@9" && compacted > 4 {
				continue
			}
			p := parts{clock: c.clock, leases: c.leases, rows: []folk.Row{rowOf(3, 1, c.reply)}, store: storeOf(t, c.revisions...)}
			p.store.Compact(compacted)
			if got := taken(t, p.bytes()); got != c.want {
				t.Errorf("%s, compacted at %d: %v", c.what, compacted, got)
			}
		}
	}
	survived := append(twoLeases(), ks("k%02d@6", 0, 40, 2), ks("k%02d@9", 40, 80, 2), ks("-k%02d", 0, 80, 2)+" -x") // 9 was not over the first time
	for clock, want := range []bool{false, false, true, true} {
		if got := taken(t, parts{clock: clock, store: storeOf(t, survived...)}.bytes()); got != want {
			t.Errorf("one that was over the second time, at %d: %v", clock, got)
		}
	}
}

// TestP1203LeasesOfThePast are numbers that can be granted, 1024 at a time.
func TestP1203LeasesOfThePast(t *testing.T) {
	for _, c := range []struct {
		lease string
		want  bool
	}{{"1", true}, {"2147483647", true}, {"2147483648", false}, {"4611686018427387904", false}, {"9223372036854775807", false}} {
		for compacted := range 3 {
			s := storeOf(t, "a@"+c.lease+" b", "b", "a b")
			s.Compact(compacted)
			if got := taken(t, parts{store: s}.bytes()); got != c.want {
				t.Errorf("%s, compacted at %d: %v", c.lease, compacted, got)
			}
		}
	}
	many := func(n int) []string {
		var l []string
		for from := 1; from <= n; from += 32 {
			l = append(l, ks("k%[1]d@%[1]d", from, min(from+32, n+1), 1))
		}
		for from := 1; from <= n; from += 32 {
			l = append(l, ks("k%d", from, min(from+32, n+1), 1))
		}
		return l
	}
	full := func(more string) []string { return append(many(1023)[:32], more) }
	for _, c := range []struct {
		what      string
		revisions []string
		time      int
		want      bool
	}{
		{"one more", full("k1@1024"), 0, true}, {"when another one was there", full("k1@1024"), 1, false}, {"one that is there", full("k1@2"), 1, true}, {"two that are there", full("k1@2 k2@1"), 1, true},
	} { // all of them made by a client's call
		p := parts{clock: 1, leases: []lease.Lease{at(5000, 9, 0)}, store: storeOf(t, c.revisions...)}
		p.rows = []folk.Row{rowOf(3, 1, api.Reply{Rev: 33, Time: c.time, Results: told(strings.Repeat("1 ", len(strings.Fields(c.revisions[32]))))})}
		for from := 1; from <= 1023; from += 32 {
			w := p.store.Write()
			for i := from; i < min(from+32, 1024); i++ {
				w.Put(fmt.Sprint("k", i), "v", 0)
			}
			w.Done()
		}
		if got := taken(t, p.bytes()); got != c.want {
			t.Errorf("%s: %v", c.what, got)
		}
	}
	for _, c := range []struct {
		what      string
		n, clock  int
		leases    []lease.Lease
		reply     api.Reply
		compacted int
		want      bool
	}{
		{"1024", 1024, 0, nil, api.Reply{}, 0, true}, {"1025", 1025, 0, nil, api.Reply{}, 0, false}, {"1024, compacted", 1024, 0, nil, api.Reply{}, 32, true}, {"1025, compacted", 1025, 0, nil, api.Reply{}, 33, false}, {"1025, compacted ahead of that", 1025, 0, nil, api.Reply{}, 20, false}, {"1025, compacted behind that", 1025, 0, nil, api.Reply{}, 34, true},
		{"1024, and another one of that time", 1024, 5, []lease.Lease{at(5000, 9, 0)}, api.Reply{}, 0, true}, {"and one that was there by then", 1024, 5, []lease.Lease{at(5000, 9, 0)}, api.Reply{Rev: 3, Time: 1}, 0, false}, {"that came later", 1024, 5, []lease.Lease{at(5000, 9, 1)}, api.Reply{Rev: 3, Time: 1}, 0, true}, {"that is one of them", 1024, 5, []lease.Lease{at(500, 9, 0)}, api.Reply{Rev: 3, Time: 1}, 0, true}, {"1023, and one that was there", 1023, 5, []lease.Lease{at(5000, 9, 0)}, api.Reply{Rev: 3, Time: 1}, 0, true},
	} {
		s := storeOf(t, many(c.n)...)
		s.Compact(c.compacted)
		b := parts{clock: c.clock, leases: c.leases, rows: []folk.Row{rowOf(3, 1, c.reply)}, store: s}.bytes()
		if got := taken(t, b); got != c.want {
			t.Errorf("%s: %v", c.what, got)
		}
	}
}

// TestP1203RepliesOneBehindTheOther: revisions and the clock go on together.
func TestP1203RepliesOneBehindTheOther(t *testing.T) {
	for _, c := range []struct {
		at   [][2]int // Rev, Time
		want bool
	}{
		{[][2]int{{0, 0}, {1, 3}, {2, 7}}, true}, {[][2]int{{2, 7}, {0, 0}, {1, 3}}, true}, {[][2]int{{1, 3}, {1, 7}, {1, 0}}, true}, {[][2]int{{0, 3}, {1, 3}, {2, 3}}, true},
		{[][2]int{{1, 3}, {2, 2}}, false}, {[][2]int{{2, 2}, {1, 3}}, false}, {[][2]int{{0, 1}, {2, 0}}, false}, {[][2]int{{0, 0}, {1, 5}, {1, 2}, {2, 4}}, false}, {[][2]int{{0, 0}, {1, 4}, {1, 2}, {2, 4}}, true},
	} {
		for compacted := range 3 {
			p := parts{clock: 7, store: storeOf(t, "a", "b")}
			p.store.Compact(compacted)
			for i, x := range c.at {
				p.rows = append(p.rows, rowOf(i+1, 1, api.Reply{Rev: x[0], Time: x[1]}))
			}
			if got := taken(t, p.bytes()); got != c.want {
				t.Errorf("%v, compacted at %d: %v", c.at, compacted, got)
			}
		}
	}
}

// told makes results of a text: "2" is N alone, "2:a.1.2.2,b.1.1.1" N and keys with Create, Mod, Version.
func told(text string) []api.Result {
	var results []api.Result
	for _, part := range strings.Fields(text) {
		var r api.Result
		n, keys, _ := strings.Cut(part, ":")
		fmt.Sscan(n, &r.N)
		for _, x := range strings.FieldsFunc(keys, func(c rune) bool { return c == ',' }) {
			kv := api.KV{Value: "v"}
			f := strings.Split(x, ".")
			kv.Key = f[0]
			fmt.Sscan(strings.Join(f[1:], " "), &kv.Create, &kv.Mod, &kv.Version)
			r.KVs = append(r.KVs, kv)
		}
		results = append(results, r)
	}
	return results
}

// row4 is a store in which there is something of all.
func row4(t *testing.T) *mvcc.Store {
	return storeOf(t, "a b c", "b d", "-a -b e", "c -d -e f")
}

// TestP1203RepliesOfTransactions tells which results can be at each revision of one store.
func TestP1203RepliesOfTransactions(t *testing.T) {
	for _, c := range []struct {
		rev  int
		text string
		want bool
	}{
		{0, "0", true}, {0, "0 0 0", true}, {0, "1", false}, {0, "5", false}, {0, "1:a.1.1.1", false},
		// at 1 all three were put, and nothing was there ahead of it
		{1, "0 0 0", true}, {1, "0", true}, {1, "0 0", true}, {1, "0 0 0 0 0", true}, {1, "1 0 0", false}, {1, "0 0 1", false}, {1, "3", false}, {1, "3:a.1.1.1", true}, {1, "3:a.1.1.1,b.1.1.1,c.1.1.1", true}, {1, "2:a.1.1.1,b.1.1.1", true}, {1, "2:a.1.1.1,c.1.1.1", false}, {1, "4:a.1.1.1", false}, {1, "3:b.1.1.1", false}, {1, "2:b.1.1.1", true}, {1, "1:a.1.2.2", false}, {1, "1:q.1.1.1", false},
		{1, "0 1:a.1.1.1 0 1:b.1.1.1 0 1:c.1.1.1", true}, {1, "0 1:a.1.1.1 0 2:a.1.1.1 0 3:a.1.1.1", true}, {1, "0 2:a.1.1.1 0 2:a.1.1.1 0", true}, {1, "0 1:b.1.1.1 0 0", true}, {1, "0 0 1:c.1.1.1 1", false},
		// at 2 b was put again, d was new
		{2, "1 0", true}, {2, "0 1", false}, {2, "0 1 0 0", true}, {2, "1", false}, {2, "1 1", false}, {2, "2", false}, {2, "0", true}, {2, "4:a.1.1.1,b.1.2.2", true}, {2, "3:a.1.1.1,b.1.1.1", false}, {2, "3:a.1.1.1,b.1.1.1 1 0", true}, {2, "1 3:a.1.1.1,b.1.1.1 0", false}, {2, "1 3:a.1.1.1,b.1.2.2 0", true}, {2, "4:a.1.1.1 1 0", false}, {2, "1 0 4:a.1.1.1", true}, {2, "1 4:a.1.1.1 0", false},
		// at 3 a and b went, side by side, and e was new
		{3, "2 0", true}, {3, "1 1 0", true}, {3, "0 1 1 0", true}, {3, "1 0", false}, {3, "3 0", false}, {3, "2 1", false}, {3, "0 2", false}, {3, "4:a.1.1.1 2 2:c.1.1.1,d.2.2.1 0 1:e.3.3.1", true}, {3, "4:a.1.1.1 1 4:b.1.2.2 1 0", false}, {3, "4:a.1.1.1 1 3:b.1.2.2 1 0", true}, {3, "2:a.1.1.1 2:d.2.2.1", false},
		// at 4 c was put, d and e went, side by side, f was new
		{4, "1 2 0", true}, {4, "1 1 1 0", true}, {4, "2 1 0", false}, {4, "1 2 0 2:c.1.4.2,f.4.4.1", true}, {4, "2:c.1.4.2,f.4.4.1", true}, {4, "3:c.1.1.1,d.2.2.1,e.3.3.1 1 2 0", true}, {4, "1 3:c.1.4.2,d.2.2.1,e.3.3.1 2 0", true}, {4, "1 1:c.1.4.3 2 0", false},
	} {
		p := parts{rows: []folk.Row{rowOf(3, 5, api.Reply{Rev: c.rev, Then: c.rev%2 == 0, Results: told(c.text)})}, store: row4(t)}
		if got := taken(t, p.bytes()); got != c.want {
			t.Errorf("at %d, %q: %v", c.rev, c.text, got)
		}
	}
}

// TestP1203RepliesTellKeysAsTheyWere: each field of them.
func TestP1203RepliesTellKeysAsTheyWere(t *testing.T) {
	for i, turn := range []func(kv *api.KV){func(*api.KV) {}, func(kv *api.KV) { kv.Key = "ab" }, func(kv *api.KV) { kv.Value = "w" }, func(kv *api.KV) { kv.Create++ }, func(kv *api.KV) { kv.Mod-- }, func(kv *api.KV) { kv.Version++ }, func(kv *api.KV) { kv.Lease = 7 }} {
		for compacted := range 4 {
			results := told("1:a.1.2.2")
			turn(&results[0].KVs[0])
			p := parts{rows: []folk.Row{rowOf(3, 5, api.Reply{Rev: 2, Results: results})}, store: storeOf(t, "a c", "a c", "a c", "b")}
			p.store.Compact(compacted)
			want := i == 0 || compacted == 3 && (i == 1 || i == 2 || i == 6) // of what is forgotten that may be
			if got := taken(t, p.bytes()); got != want {
				t.Errorf("%d, compacted at %d: %v", i, compacted, got)
			}
		}
	}
}

// TestP1203RepliesOfOneRevision: one transaction made it, ahead of all others.
func TestP1203RepliesOfOneRevision(t *testing.T) {
	for _, c := range []struct {
		texts []string
		times []int
		want  bool
	}{
		{[]string{"1 0", "0"}, []int{3, 3}, true}, {[]string{"1 0", "1 0"}, []int{3, 3}, false}, {[]string{"1 0", "0"}, []int{3, 4}, true}, {[]string{"1 0", "0"}, []int{4, 3}, false}, {[]string{"0", "1 0"}, []int{3, 4}, false}, {[]string{"4:a.1.1.1", "1 0"}, []int{3, 3}, true}, {[]string{"4:a.1.1.1", "3:a.1.1.1 1 0"}, []int{5, 4}, true}, {[]string{"4:a.1.1.1", "3:a.1.1.1 1 0"}, []int{4, 5}, false},
	} {
		for compacted := range 4 {
			p := parts{clock: 9, store: row4(t)}
			for i, text := range c.texts {
				p.rows = append(p.rows, rowOf(i+1, 1, api.Reply{Rev: 2, Time: c.times[i], Results: told(text)}))
			}
			p.store.Compact(compacted)
			if got := taken(t, p.bytes()); got != c.want {
				t.Errorf("%v at %v, compacted at %d: %v", c.texts, c.times, compacted, got)
			}
		}
	}
}

// TestP1203RepliesThatAreTooLong: what ranges tell has 65536 bytes at most; of each key its own, its value's, and 40.
func TestP1203RepliesThatAreTooLong(t *testing.T) {
	value := strings.Repeat("v", 4096-46)
	s := mvcc.New()
	w := s.Write()
	for i := range 20 {
		w.Put(fmt.Sprintf("key/%02d", i), value, 0)
	}
	w.Put("little", "", 0)
	w.Done()
	all := keys(s)
	for _, c := range []struct {
		n    []int
		want bool
	}{{[]int{16}, true}, {[]int{17}, false}, {[]int{8, 8}, true}, {[]int{8, 9}, false}, {[]int{1, 0, 15}, true}, {[]int{1, 0, 15, -1}, false}} {
		var results []api.Result
		for _, n := range c.n {
			r := api.Result{N: n}
			if n < 0 {
				r = api.Result{N: 1, KVs: all[20:]}
			} else {
				r.KVs = all[:n]
			}
			results = append(results, r)
		}
		if got := taken(t, parts{rows: []folk.Row{rowOf(1, 1, api.Reply{Rev: 1, Results: results})}, store: s}.bytes()); got != c.want {
			t.Errorf("%v: %v", c.n, got)
		}
	}
}

// TestP1203RepliesThatThereIsNoRoom: a transaction that puts 32 keys lacks room from 4065 on.
func TestP1203RepliesThatThereIsNoRoom(t *testing.T) {
	var revisions []string
	for from := 0; from < 4096; from += 32 {
		revisions = append(revisions, ks("k%04d", from, from+32, 1))
	}
	revisions = append(revisions, ks("-k%04d", 0, 30, 1), ks("-k%04d", 30, 31, 1), ks("-k%04d", 31, 32, 1))
	for rev, want := range map[int]bool{0: false, 1: false, 126: false, 127: false, 128: true, 129: true, 130: true, 131: false} {
		p := parts{rows: []folk.Row{rowOf(1, 1, api.Reply{Err: api.ErrFull, Rev: rev})}, store: storeOf(t, revisions...)}
		if got := taken(t, p.bytes()); got != want {
			t.Errorf("at %d: %v", rev, got)
		}
		for _, compacted := range []int{130, 131} {
			if p.store.Compact(compacted); rev <= compacted && taken(t, p.bytes()) != want {
				t.Errorf("at %d, compacted at %d: %v", rev, compacted, !want)
			}
		}
	}
	p := parts{store: storeOf(t, append(revisions[:128], "k0000", "k0000", "k0000")...)}
	p.store.Compact(131)
	for key, want := range map[string]bool{"k0000": true, "x": false} { // there is no room for another one
		reply := api.Reply{Rev: 129, Results: []api.Result{{N: 1, KVs: []api.KV{{Key: key, Value: "v", Create: 129, Mod: 129, Version: 1}}}}}
		if key == "k0000" {
			reply.Results[0].KVs[0].Create, reply.Results[0].KVs[0].Version = 1, 2
		}
		p.rows = []folk.Row{rowOf(1, 1, reply)}
		if got := taken(t, p.bytes()); got != want {
			t.Errorf("%s: %v", key, got)
		}
	}
}
