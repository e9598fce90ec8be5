package machine

import (
	"math"
	"strings"
	"testing"

	"horologe/api"
	"horologe/folk"
)

// TestP1203KeysOfACompactedPast: what is left of revisions that no command makes.
func TestP1203KeysOfACompactedPast(t *testing.T) {
	some, more := ks("k%02d", 0, 20, 1), ks("n%02d", 0, 13, 1)
	for _, c := range []struct {
		what      string
		revisions []string
		want      bool
	}{
		{"32 puts", []string{ks("k%02d", 0, 32, 1)}, true}, {"33", []string{ks("k%02d", 0, 33, 1)}, false},
		{"32 twice", []string{ks("k%02d", 0, 32, 1), ks("k%02d", 0, 32, 1)}, true}, {"33 twice", []string{ks("k%02d", 0, 33, 1), ks("k%02d", 0, 33, 1)}, false},
		{"33, of which some were put again", []string{ks("k%02d", 0, 33, 1), ks("k%02d", 0, 20, 1), ks("k%02d", 20, 33, 1)}, false}, {"33, which came by and by, put together", []string{ks("k%02d", 0, 20, 1), ks("k%02d", 20, 33, 1), ks("k%02d", 0, 33, 1)}, false},
		{"16 new ones, and 16 put again", []string{ks("k%02d", 0, 16, 1), ks("k%02d", 0, 32, 1)}, true}, {"17 new ones", []string{ks("k%02d", 0, 16, 1), ks("k%02d", 0, 33, 1)}, false},
		{"33 by a revision that was not the last one of theirs", []string{some, some, some + " " + more, some + " " + more[:len(more)-4], some}, false}, {"32", []string{some, some, some + " " + more[:len(more)-4], some + " " + more[:len(more)-4], some}, true},
		{"which may have been another one's", []string{some, some, some + " " + more, some, "x", "-x", some}, true},
		{"33, of which one went", []string{ks("k%02d", 0, 33, 1), "-k32"}, false}, {"32, of which one went", []string{ks("k%02d", 0, 32, 1), "-k31"}, true}, {"33, of which two went by and by", []string{ks("k%02d", 0, 33, 1), "-k32", "-k31"}, true},
		{"32, and one goes", []string{"x", ks("k%02d", 0, 32, 1) + " -x"}, false}, {"31, and one goes", []string{"x", ks("k%02d", 0, 31, 1) + " -x"}, true}, {"32, and one goes later", []string{"x", ks("k%02d", 0, 32, 1), "-x"}, true},
		{"32, and one that comes and goes between", []string{ks("k%02d", 0, 32, 1), "x", ks("k%02d", 0, 32, 1) + " -x"}, false}, {"with room in the last", []string{ks("k%02d", 0, 32, 1), "x", ks("k%02d", 0, 31, 1) + " -x"}, true}, {"with room in the first", []string{ks("k%02d", 0, 31, 1), "x", ks("k%02d", 0, 32, 1) + " -x"}, true}, {"with other puts for all of them but one", []string{ks("k%02d", 0, 32, 1), "x", ks("n%02d", 0, 32, 1), ks("k%02d", 0, 32, 1) + " -x"}, false}, {"and puts that can only be there", []string{ks("k%02d", 0, 32, 1), ks("k%02d", 0, 16, 1), ks("n%02d", 0, 32, 1), ks("k%02d", 0, 32, 1)}, true}, {"with puts that may be there instead", []string{ks("k%02d", 0, 32, 1), ks("k%02d", 0, 32, 1), "x", ks("k%02d", 0, 32, 1) + " -x"}, true},
	} {
		p := parts{store: storeOf(t, c.revisions...)}
		p.store.Compact(len(c.revisions))
		if got := taken(t, p.bytes()); got != c.want {
			t.Errorf("%s: %v", c.what, got)
		}
	}
}

// TestP1203RepliesOfACompactedPast tells which results can be at each revision of a store of which the last one alone is known: c (created at 1, put at 4), f (created at 4).
func TestP1203RepliesOfACompactedPast(t *testing.T) {
	long, longest := strings.Repeat("k", 101), strings.Repeat("k", 100)
	for _, c := range []struct {
		rev  int
		text string
		want bool
	}{
		{0, "", true}, {0, "0", true}, {0, "1", false}, {0, "5", false}, {0, "1:a.1.1.1", false}, {0, "1:a.0.0.1", false},
		// at 1 nothing was there ahead of it, and 32 keys at most behind it
		{1, "0 0 0", true}, {1, "1", false}, {1, "0 1", false}, {1, "5:a.1.1.1", true}, {1, "32:a.1.1.1", true}, {1, "33:a.1.1.1", false}, {1, "1:a.1.2.2", false}, {1, "1:a.0.1.1", false}, {1, "1:a.1.1.0", false}, {1, "1:a.1.1.2", false}, {1, "1:a.2.1.1", false}, {1, "1:" + longest + ".1.1.1", true}, {1, "1:" + long + ".1.1.1", false}, {1, "1:.1.1.1", false}, {1, "0:a.1.1.1", false}, {1, "2:a.1.1.1,a.1.1.1", false}, {1, "2:b.1.1.1,a.1.1.1", false},
		{1, "1:c.1.1.1", true}, {1, "2:b.1.1.1,d.1.1.1", false}, {1, "0 0 2:b.1.1.1,d.1.1.1 0", true}, {1, "0 2:b.1.1.1,d.1.1.1 0 0", false}, {1, "0 2:b.1.1.1,d.1.1.1 0", false}, {1, "0 0 2:b.1.1.1,d.1.1.1 0 3:b.1.1.1,c.1.1.1,d.1.1.1", true}, {1, "0 0 0 3:b.1.1.1,c.1.1.1,d.1.1.1 2:b.1.1.1,d.1.1.1", false},
		// at 2 and 3 c was as it was at 1; what f was is not known
		{2, "1:c.1.1.1", true}, {2, "1:c.1.2.2", false}, {2, "1:c.2.2.1", false}, {2, "2:b.1.1.1,d.2.2.1", false}, {2, "3:b.1.1.1,c.1.1.1,d.2.2.1", true}, {2, "64:c.1.1.1", true}, {2, "65:c.1.1.1", false}, {2, "31", true}, {2, "32", false}, {2, "29 2", true}, {2, "29 3", false}, {2, "9223372036854775807 9223372036854775807 2", false}, {2, "9223372036854775807 9223372036854775807 3", false},
		{2, "1:f.1.1.1", true}, {2, "1:f.2.2.1", true}, {3, "1:f.2.2.1", false}, {3, "1:f.3.3.1", false}, {3, "1:f.2.2.1 1", true}, {3, "1 1:f.2.2.1", false}, {3, "1:f.2.2.1 0", false}, {3, "1 0 1:f.3.3.1", false}, {3, "1:b.2.3.2", true}, {3, "1:b.1.3.2", true}, {3, "1:b.1.3.4", false}, {3, "1:b.1.3.1", false},
		{3, "1:b.1.1.1 1 1:b.1.3.2", true}, {3, "1:b.1.1.1 1:b.1.3.2", false}, {3, "1:b.1.1.1 0 1:b.1.3.2", false}, {3, "1 1:b.1.1.1 1:b.1.3.2", false}, {3, "1:b.1.3.2 1 1:b.1.1.1", false}, {3, "1:b.1.1.1 1 1:b.1.3.3", false}, {3, "1:b.1.1.1 1 1:b.3.3.1", false}, {3, "1:b.1.2.2 1 0 1:b.1.3.3", true}, {3, "2:b.1.1.1,d.1.1.1 1", false}, {3, "3:b.1.1.1,c.1.1.1,d.1.1.1 1", true},
		// at 4 c was put, f was new, and nothing else stayed
		{4, "2:c.1.4.2,f.4.4.1", true}, {4, "2:c.1.4.2", true}, {4, "1:f.4.4.1", true}, {4, "3:c.1.4.2", false}, {4, "1:c.1.1.1", false}, {4, "1:d.4.4.1 1 0", false}, {4, "0 1:d.4.4.1 1 0", false}, {4, "0 1:d.4.4.1 1 0 1", false}, {4, "0 1:f.4.4.1 1 0 1", true}, {4, "1:d.2.2.1", false}, {4, "0", true}, {4, "0 0", true}, {4, "1 0", true}, {4, "0 1", true}, {4, "1", false}, {4, "1 1", false}, {4, "2 0", false}, {4, "2 1 0", true}, {4, "1 0 0 7", true}, {4, "96 1", false}, {4, "95 1 0", true}, {4, "96 1 0", false},
		{4, "1:c.1.1.1 1 0", true}, {4, "1 1:c.1.1.1 0", false}, {4, "1 1:c.1.4.2 0", true}, {4, "1 0 2:c.1.4.2,f.4.4.1", true}, {4, "1 2:c.1.4.2,f.4.4.1 0", false}, {4, "0 1:c.1.4.2 1", false}, {4, "1:c.1.4.2 1 0", false}, {4, "1:c.1.2.2 1 0", false},
		{4, "4:c.1.1.1 1 3 0", true}, {4, "4:c.1.1.1 1 1 0", false}, {4, "1 3:c.1.4.2 2 0", true}, {4, "1 4:c.1.4.2 2 0", false}, {4, "1 0 4:c.1.4.2 2", true}, {4, "1 0 5:c.1.4.2 2", false}, {4, "1:q.2.3.2 1 0", false}, {4, "1:b.2.3.2 1 0", false}, {4, "1:b.2.3.2 1 1 0", true}, {4, "5 1:b.2.3.2 1 0", false}, {4, "5 1:b.2.3.2 1 1 0", true}, {4, "1:b.2.3.2 0 2", false}, {4, "1:b.2.3.2 0 2 1", true}, {4, "1:f.4.4.1 1 0 1:f.4.4.1", false}, {4, "1 0 1:f.4.4.1 0 1:f.4.4.1", true}, {4, "1 2:c.1.1.1,q.2.3.2 1 0", false}, {4, "1 2:c.1.1.1,q.2.3.2 1 1 0", true}, {4, "1:q.2.3.2 1 1 0", true}, {4, "1 1:q.2.3.2 1 0", true}, {4, "1 1 1:q.2.3.2 0", false}, {4, "2:q.2.3.2,r.1.1.1 1 0 2", true}, {4, "2:q.2.3.2,r.1.1.1 1 0 1", false}, {4, "2:b.1.1.1,d.1.1.1 1 2 0", false},
	} {
		p := parts{rows: []folk.Row{rowOf(3, 5, api.Reply{Rev: c.rev, Results: told(c.text)})}, store: row4(t)}
		p.store.Compact(4)
		if got := taken(t, p.bytes()); got != c.want {
			t.Errorf("at %d, %q: %v", c.rev, c.text, got)
		}
	}
}

// TestP1203WhatIsKnownToHaveGone: a revision that would be left with nothing to do has deleted what a reply tells of.
func TestP1203WhatIsKnownToHaveGone(t *testing.T) {
	for _, revisions := range [][]string{{ks("k%02d", 0, 31, 1) + " x", "-x"}, {ks("k%02d", 0, 31, 1) + " x", "-x", ks("k%02d", 0, 31, 1) + " x"}} {
		p := parts{rows: []folk.Row{rowOf(3, 5, api.Reply{Rev: 1, Results: told("1:x.1.1.1")})}, store: storeOf(t, revisions...)}
		p.store.Compact(len(revisions))
		if !taken(t, p.bytes()) {
			t.Errorf("%d revisions: refused", len(revisions))
		}
	}
}

// TestP1203WhatTheLastTransactionPassedOver: c was there all the time, also where its fact is told again.
func TestP1203WhatTheLastTransactionPassedOver(t *testing.T) {
	for text, want := range map[string]bool{"1:c.1.1.1 2": true, "1:c.1.1.1 2:b.1.1.1,d.1.1.1 2": false, "1:c.1.1.1 3:b.1.1.1,c.1.1.1,d.1.1.1 1 1": true} {
		p := parts{rows: []folk.Row{rowOf(3, 5, api.Reply{Rev: 4, Results: told(text)})}, store: storeOf(t, "c", "x", "y", "-x -y")}
		p.store.Compact(4)
		if got := taken(t, p.bytes()); got != want {
			t.Errorf("%q: %v", text, got)
		}
	}
}

// TestP1203RepliesThatContradictEachOther: what two clients were told of one key, or of one revision.
func TestP1203RepliesThatContradictEachOther(t *testing.T) {
	for _, c := range []struct {
		rev   [2]int
		texts [2]string
		want  bool
	}{
		{[2]int{2, 2}, [2]string{"1:x.1.2.2", "1:x.1.2.2"}, true}, {[2]int{2, 2}, [2]string{"1:x.1.2.2", "1:x.2.2.1"}, false}, {[2]int{2, 2}, [2]string{"1:x.1.1.1", "1:x.2.2.1"}, false}, {[2]int{2, 2}, [2]string{"1:x.1.1.1", "1:x.1.2.2"}, false}, {[2]int{2, 2}, [2]string{"1:x.1.1.1 1", "1:x.1.2.2"}, true}, {[2]int{2, 2}, [2]string{"1:x.1.1.1 1", "1:x.1.2.2 1"}, false},
		{[2]int{2, 3}, [2]string{"1:x.1.1.1", "1:x.1.3.2"}, true}, {[2]int{2, 3}, [2]string{"1:x.1.1.1", "1:x.1.3.3"}, false}, {[2]int{2, 3}, [2]string{"1:x.1.2.2", "1:x.1.3.2"}, false}, {[2]int{2, 3}, [2]string{"1:x.1.2.2", "1:x.1.3.3"}, true}, {[2]int{2, 3}, [2]string{"1:x.1.2.2", "1:x.1.1.1"}, false}, {[2]int{2, 3}, [2]string{"1:x.1.2.2", "1:x.3.3.1"}, false}, {[2]int{1, 3}, [2]string{"1:x.1.1.1", "1:x.3.3.1"}, true}, {[2]int{1, 3}, [2]string{"1:x.1.1.1", "1:x.2.3.2"}, false},
		{[2]int{2, 3}, [2]string{"2:x.1.1.1,z.1.1.1", "1:y.1.1.1"}, false}, {[2]int{2, 3}, [2]string{"2:x.1.1.1,z.1.1.1", "1:y.3.3.1"}, true}, {[2]int{2, 3}, [2]string{"2:x.1.1.1,z.1.1.1", "1:y.2.2.1"}, false}, {[2]int{2, 3}, [2]string{"0 2:x.1.1.1,z.1.1.1", "1:y.2.2.1"}, false}, {[2]int{2, 3}, [2]string{"2:x.1.1.1,z.1.1.1 0", "1:y.2.2.1"}, true}, {[2]int{2, 1}, [2]string{"2:x.1.1.1,z.1.1.1", "1:y.1.1.1"}, true},
		{[2]int{3, 4}, [2]string{"1:c.1.1.1", "1 0"}, true}, {[2]int{3, 4}, [2]string{"2:c.1.1.1", "1 0"}, false}, {[2]int{3, 4}, [2]string{"5:c.1.1.1", "1 0 4"}, true}, {[2]int{3, 4}, [2]string{"6:c.1.1.1", "1 0 4"}, false}, {[2]int{3, 4}, [2]string{"6:c.1.1.1", "0"}, true}, {[2]int{2, 4}, [2]string{"6:c.1.1.1", "1 0"}, true}, // how many keys are left
		{[2]int{3, 4}, [2]string{"2:c.1.1.1 1", "1 0"}, true}, {[2]int{3, 4}, [2]string{"3:c.1.1.1 1", "1 0"}, false}, {[2]int{3, 4}, [2]string{"1 2:c.1.1.1", "1 0"}, false}, {[2]int{3, 4}, [2]string{"3:c.1.1.1 1 1", "1 0"}, true},
		{[2]int{1, 1}, [2]string{"0 0 2:b.1.1.1,d.1.1.1 0", "0"}, true}, {[2]int{1, 1}, [2]string{"0 0 2:b.1.1.1,d.1.1.1 0", "0 0 2:b.1.1.1,d.1.1.1 0"}, false},
		{[2]int{2, 2}, [2]string{"1", "0"}, true}, {[2]int{2, 2}, [2]string{"1", "1"}, false}, {[2]int{2, 2}, [2]string{"2:x.1.1.1,z.1.1.1 0", "2:x.1.1.1,y.2.2.1"}, true}, {[2]int{2, 2}, [2]string{"2:x.1.1.1,z.1.1.1", "2:x.1.1.1,y.2.2.1"}, false}, {[2]int{2, 2}, [2]string{"2:x.1.1.1,z.1.1.1 0", "1:y.2.2.1 1"}, false},
	} {
		for _, turn := range []int{0, 1} {
			p := parts{store: row4(t)}
			p.store.Compact(4)
			for i := range 2 {
				p.rows = append(p.rows, rowOf(i+1, 1, api.Reply{Rev: c.rev[i^turn], Results: told(c.texts[i^turn])}))
			}
			if got := taken(t, p.bytes()); got != c.want {
				t.Errorf("%v, %q: %v", c.rev, c.texts, got)
			}
		}
	}
}

// TestP1203HowManyKeysWereLeft: of revisions one behind the other it is known what they did, up to the last one, which left two keys.
func TestP1203HowManyKeysWereLeft(t *testing.T) {
	for _, c := range []struct {
		texts []string // at 2, 3, 4
		want  bool
	}{
		{[]string{"1:c.1.1.1", "2", "1 0"}, true}, {[]string{"3:c.1.1.1", "2", "1 0"}, true}, {[]string{"4:c.1.1.1", "2", "1 0"}, false}, {[]string{"4:c.1.1.1", "0", "1 0"}, true}, {[]string{"6:c.1.1.1", "2", "1 0 3"}, true}, {[]string{"7:c.1.1.1", "2", "1 0 3"}, false},
		{[]string{"0", "1:c.1.1.1 1:a.1.1.1", "1 0 1"}, true}, {[]string{"0", "1:c.1.1.1 1:a.1.1.1", "1 0"}, false}, {[]string{"1:c.1.1.1 1:a.1.1.1", "1", "1 0"}, true}, {[]string{"1:c.1.1.1 1:a.1.1.1 1:b.1.1.1", "1", "1 0"}, false},
	} {
		p := parts{store: row4(t)}
		for i, text := range c.texts {
			p.rows = append(p.rows, rowOf(i+1, 1, api.Reply{Rev: i + 2, Results: told(text)}))
		}
		p.store.Compact(4)
		if got := taken(t, p.bytes()); got != c.want {
			t.Errorf("%q: %v", c.texts, got)
		}
	}
}

// TestP1203ManyRepliesOfACompactedPast: of 64 clients, each of which was told of 32 keys that one revision put, one is told of one more.
func TestP1203ManyRepliesOfACompactedPast(t *testing.T) {
	for _, c := range []struct {
		more string
		want bool
	}{{"", true}, {"1:x.2.2.1", false}, {"1:x.1.2.2", false}, {"1:x.1.3.2", true}, {"1:x.1.3.3", false}, {"1:x.1.1.1", true}} {
		p := parts{store: row4(t)}
		for i := range 64 {
			text := strings.ReplaceAll(ks("y%02d.2.2.1", 0, 32, 1), " ", ",")
			reply := api.Reply{Rev: 3, Results: told("32:" + text)}
			if i == 63 {
				reply.Results = told(c.more)
			}
			p.rows = append(p.rows, rowOf(i+1, 1, reply))
		}
		p.store.Compact(4)
		if got := taken(t, p.bytes()); got != c.want {
			t.Errorf("%s: %v", c.more, got)
		}
	}
}

// TestP1203LeasesOfACompactedPast: of what was told, too.
func TestP1203LeasesOfACompactedPast(t *testing.T) {
	for _, c := range []struct {
		lease int
		want  bool
	}{{0, true}, {1, true}, {1<<31 - 1, true}, {1 << 31, false}, {-1, false}, {math.MinInt, false}, {math.MaxInt, false}} {
		p := parts{store: row4(t)}
		results := told("1:x.1.1.1")
		results[0].KVs[0].Lease = c.lease
		p.rows = append(p.rows, rowOf(1, 1, api.Reply{Rev: 1, Results: results}))
		p.store.Compact(4)
		if got := taken(t, p.bytes()); got != c.want {
			t.Errorf("%d: %v", c.lease, got)
		}
	}
}
