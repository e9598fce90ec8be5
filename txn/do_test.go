package txn_test

import (
	"bytes"
	"fmt"
	"math"
	"slices"
	"strings"
	"testing"

	"horologe/api"
	"horologe/mvcc"
	"horologe/txn"
)

// some is a store with a, c, e, g.
func some(t *testing.T) (*mvcc.Store, *model) {
	return of(t, then(put("a", "1"), leased("c", 5)), then(put("e", "3"), put("x", "")), then(put("a", "11"), del("x", "")), then(put("g", "")))
}

// finds does a transaction and says what its results are to be.
func finds(t *testing.T, s *mvcc.Store, m *model, x api.Txn, want string) {
	t.Helper()
	r, err := does(t, s, m, x)
	if err != api.OK || toldResults(r) != want {
		t.Errorf("%.200s: %s, %v; not %s", fmt.Sprintf("%+v", x), toldResults(r), err, want)
	}
}

// refuses does one that is to be refused.
func refuses(t *testing.T, s *mvcc.Store, m *model, x api.Txn, want api.Errno) {
	t.Helper()
	if _, err := does(t, s, m, x); err != want {
		t.Errorf("%.200s: %v, not %v", fmt.Sprintf("%+v", x), err, want)
	}
}

func TestP903Example(t *testing.T) {
	s := mvcc.New()
	x := api.Txn{If: ifs(api.If{Key: "a", Target: api.TVersion}), Then: ops(put("a", "first")), Else: ops(get("a", "", 0))}
	did, r, err := txn.Do(s, leases{}, x)
	is(t, "the first", fmt.Sprint(did, toldResults(r), err, s.Rev()), "true0[]ok 1")
	did, r, err = txn.Do(s, leases{}, x)
	is(t, "the second", fmt.Sprint(did, toldResults(r), err, s.Rev()), "false1[a=first/1.1.1.0]ok 1")
}

func TestP903ThenAndElse(t *testing.T) {
	yes, no := api.If{Key: "e", Target: api.TMod, N: 2}, api.If{Key: "e", Target: api.TMod, N: 3}
	for _, c := range []struct {
		l    []api.If
		want bool
	}{
		{nil, true}, {ifs(), true}, {ifs(yes), true}, {ifs(no), false}, {ifs(yes, no), false}, {ifs(no, yes), false}, {slices.Repeat(ifs(yes), 32), true}, {append(slices.Repeat(ifs(yes), 31), no), false},
	} {
		s, m := some(t)
		x := api.Txn{If: c.l, Then: ops(put("then", "t"), get("e", "", 0)), Else: ops(put("else", "e"), put("e", "new"), get("e", "", 0))}
		did, r, err := txn.Do(s, m.leases, x)
		m.do(x)
		isAs(t, s, m)
		want := "0[] 1[e=3/2.2.1.0]"
		if !c.want {
			want = "0[] 1[] 1[e=new/2.5.2.0]"
		}
		is(t, fmt.Sprint(c.l), fmt.Sprint(did, err, toldResults(r)), fmt.Sprint(c.want, api.OK, want))
	}
}

func TestP903ABranchWithoutOperations(t *testing.T) {
	s, m := some(t)
	for _, x := range []api.Txn{{}, {Else: ops(put("a", ""))}, {If: ifs(never)}, {If: ifs(never), Then: ops(put("a", ""), leased("b", 77))}} {
		finds(t, s, m, x, "")
		is(t, "Rev", s.Rev(), 4)
	}
}

// TestP903OneBehindTheOther does operations that see one another in every order there is.
func TestP903OneBehindTheOther(t *testing.T) {
	l := ops(put("b", "new"), put("e", "again"), del("c", ""), del("f", "z"), get("a", "z", 0), get("a", "z", 2))
	var orders func(n int)
	orders = func(n int) {
		if n == len(l) {
			s, m := some(t)
			does(t, s, m, then(l...))
			does(t, s, m, api.Txn{If: ifs(never), Else: append(slices.Clone(l), get("a", "z", 0))})
			return
		}
		for i := n; i < len(l); i++ {
			l[n], l[i] = l[i], l[n]
			orders(n + 1)
			l[n], l[i] = l[i], l[n]
		}
	}
	orders(0)
}

func TestP903WhatWasDoneAheadIsSeen(t *testing.T) {
	s, m := some(t)
	finds(t, s, m, then(
		get("a", "z", 0),
		put("a", "111"),
		get("a", "b", 0),
		leased("b", 7),
		get("a", "d", 0),
		del("c", "f"),
		get("a", "z", 0),
		del("a\x00", "b"),
		del("c", "f"),
		get("z", "", 0),
		put("z", "last"),
		get("z", "", 0),
	), "4[a=11/1.3.2.0 c=/1.1.1.5 e=3/2.2.1.0 g=/4.4.1.0] 1[] 1[a=111/1.5.3.0] 0[] 3[a=111/1.5.3.0 b=/5.5.1.7 c=/1.1.1.5] 2[] 3[a=111/1.5.3.0 b=/5.5.1.7 g=/4.4.1.0] 0[] 0[] 0[] 0[] 1[z=last/5.5.1.0]")
	is(t, "then", all(s), "a=111/1.5.3.0 b=/5.5.1.7 g=/4.4.1.0 z=last/5.5.1.0")
}

// TestP903PutsTellWhetherTheKeyWasThere: also one that was put and went, and one that was put again.
func TestP903PutsTellWhetherTheKeyWasThere(t *testing.T) {
	s, m := some(t)
	finds(t, s, m, then(put("a", ""), put("b", ""), put("x", ""), leased("c", 1), put("a\x00", "")), "1[] 0[] 0[] 1[] 0[]")
	finds(t, s, m, then(put("a", ""), put("b", ""), put("x", ""), put("d", ""), put(longest, largest)), "1[] 1[] 1[] 0[] 0[]")
	finds(t, s, m, then(put("a", "same")), "1[]")
	finds(t, s, m, then(put("a", "same")), "1[]")
	finds(t, s, m, then(del("a", "c"), put("c", "")), "3[] 1[]")
	finds(t, s, m, then(put("a", "")), "0[]")
}

func TestP903DeletesTellHowManyWent(t *testing.T) {
	for _, c := range []struct {
		key, end string
		want     int
	}{
		{"a", "", 1}, {"b", "", 0}, {"x", "", 0}, {"c", "", 1}, {"a", "c", 1}, {"a", "c\x00", 2}, {"b", "h", 3}, {"\x00", beyond, 4}, {"h", "z", 0}, {"a\x00", "c", 0}, {"e", strings.Repeat("g", 5000), 2}, {longest, "", 0},
	} {
		s, m := some(t)
		finds(t, s, m, then(del(c.key, c.end)), fmt.Sprintf("%d[]", c.want))
		finds(t, s, m, then(del(c.key, c.end)), "0[]")
		for i := range 4 { // Value, Lease and Limit say nothing of it
			s, m = some(t)
			finds(t, s, m, then(api.Op{Kind: api.ODelete, Key: c.key, End: c.end, Value: "v", Lease: 77 - i, Limit: i}), fmt.Sprintf("%d[]", c.want))
		}
	}
}

func TestP903Limits(t *testing.T) {
	s, m := some(t)
	a, c, e, g := "a=11/1.3.2.0", "c=/1.1.1.5", "e=3/2.2.1.0", "g=/4.4.1.0"
	for _, x := range []struct {
		limit int
		want  string
	}{
		{math.MinInt, a + " " + c + " " + e + " " + g}, {-1, a + " " + c + " " + e + " " + g}, {0, a + " " + c + " " + e + " " + g},
		{1, a}, {2, a + " " + c}, {3, a + " " + c + " " + e}, {4, a + " " + c + " " + e + " " + g}, {5, a + " " + c + " " + e + " " + g}, {math.MaxInt, a + " " + c + " " + e + " " + g},
	} {
		finds(t, s, m, then(get("a", "z", x.limit)), "4["+x.want+"]")
		finds(t, s, m, api.Txn{If: ifs(never), Else: ops(get("b", "f", x.limit), get("e", "", x.limit), get("x", "", x.limit), get("h", "z", x.limit))}, map[bool]string{true: "2[" + c + "] 1[" + e + "] 0[] 0[]", false: "2[" + c + " " + e + "] 1[" + e + "] 0[] 0[]"}[x.limit == 1])
	}
	is(t, "Rev", s.Rev(), 4)
	// Value and Lease say nothing of an ORange, nor Limit of an OPut.
	finds(t, s, m, then(api.Op{Kind: api.ORange, Key: "a", End: "d", Value: "v", Lease: 77}, api.Op{Key: "q", Limit: 9}), "2["+a+" "+c+"] 0[]")
}

// keeper has leases, and notes for which it was asked.
type keeper struct {
	has   leases
	asked []int
}

func (k *keeper) Has(id int) bool {
	k.asked = append(k.asked, id)
	return k.has[id]
}

func TestP903Leases(t *testing.T) {
	for _, c := range []struct {
		x    api.Txn
		want api.Errno
	}{
		{then(leased("y", 5)), api.OK}, {then(leased("y", math.MaxInt)), api.OK}, {then(leased("y", 0)), api.OK}, {then(leased("a", 5)), api.OK},
		{then(leased("y", 1)), api.ErrLease}, {then(leased("y", 4)), api.ErrLease}, {then(leased("y", 6)), api.ErrLease}, {then(leased("y", 1<<32+5)), api.ErrLease}, {then(leased("y", math.MaxInt-1)), api.ErrLease}, {then(leased("a", 6)), api.ErrLease},
		{then(leased("c", 6)), api.ErrLease}, {then(leased("c", 0)), api.OK}, {then(leased("y", -5)), api.ErrArg},
		{then(put("b", ""), del("a", ""), get("a", "z", 0), leased("y", 6)), api.ErrLease}, {then(leased("y", 6), put("b", "")), api.ErrLease}, {then(leased("b", 5), leased("y", 6), leased("z", 5)), api.ErrLease}, {then(leased("b", 5), leased("y", 5)), api.OK},
		{api.Txn{Then: ops(put("b", "")), Else: ops(leased("y", 6))}, api.OK}, {api.Txn{If: ifs(never), Then: ops(leased("y", 6)), Else: ops(put("b", ""))}, api.OK}, {api.Txn{If: ifs(never), Then: ops(put("b", "")), Else: ops(leased("y", 6))}, api.ErrLease},
		{then(api.Op{Kind: api.ODelete, Key: "a", Lease: 6}, api.Op{Kind: api.ORange, Key: "a", Lease: -6}), api.OK},
		{api.Txn{If: ifs(api.If{Key: "a", Target: api.TLease, Sign: api.SUnlike, N: 6})}, api.OK},
	} {
		s, m := some(t)
		m.leases = leases{5: true, math.MaxInt: true, 0: false}
		_, err := does(t, s, m, c.x)
		is(t, fmt.Sprintf("%+v", c.x), err, c.want)
	}
}

func TestP903LeasesAreThoseOfTheCall(t *testing.T) {
	s, _ := some(t)
	do := func(l txn.Leases, op api.Op) api.Errno {
		_, _, err := txn.Do(s, l, then(op))
		return err
	}
	is(t, "there", do(leases{3: true}, leased("y", 3)), api.OK)
	is(t, "not any more", do(leases{}, leased("y", 3)), api.ErrLease)
	is(t, "of another", do(leases{4: true}, leased("y", 3)), api.ErrLease)
	is(t, "the key keeps its own", all(s), "a=11/1.3.2.0 c=/1.1.1.5 e=3/2.2.1.0 g=/4.4.1.0 y=/5.5.1.3")
	is(t, "put again without one", do(leases{}, put("y", "")), api.OK)
	is(t, "it has none", all(s), "a=11/1.3.2.0 c=/1.1.1.5 e=3/2.2.1.0 g=/4.4.1.0 y=/5.6.2.0")
}

func TestP903WithoutLeases(t *testing.T) {
	s, m := some(t)
	x := api.Txn{Then: ops(put("b", ""), del("a", ""), get("a", "c", 0)), Else: ops(leased("y", 5))}
	did, r, err := txn.Do(s, nil, x)
	is(t, "Lease 0", fmt.Sprint(did, toldResults(r), err), "true0[] 1[] 1[b=/5.5.1.0]ok")
	m.do(x)
	isAs(t, s, m)
	did, r, err = txn.Do(s, nil, then(put("d", ""), leased("y", 5)))
	is(t, "Lease 5", fmt.Sprint(did, len(r), err), "false 0 lease")
	isAs(t, s, m)
}

// TestP903WhichLeasesAreAskedFor: those of the branch that is done, and 0 is none.
func TestP903WhichLeasesAreAskedFor(t *testing.T) {
	k := &keeper{has: leases{5: true, 6: true, 7: true}}
	s := mvcc.New()
	_, _, err := txn.Do(s, k, api.Txn{Then: ops(leased("a", 5), put("b", ""), api.Op{Kind: api.ODelete, Key: "c", Lease: 8}, api.Op{Kind: api.ORange, Key: "c", Lease: 9}, leased("d", 7)), Else: ops(leased("a", 6), leased("b", 10))})
	is(t, "Do", fmt.Sprint(err, k.asked), "ok [5 7]")
	_, _, err = txn.Do(s, k, then(leased("", 5)))
	is(t, "one that is refused ahead", fmt.Sprint(err, k.asked), "arg [5 7]")
}

// filled makes a store of so many keys, k0000 and on.
func filled(t *testing.T, n int) (*mvcc.Store, *model) {
	t.Helper()
	s, m := mvcc.New(), newModel(5)
	w := s.Write()
	m.rev, m.events = 1, nil
	for i := range n {
		key := fmt.Sprintf("k%04d", i)
		if err := w.Put(key, "v", 0); err != api.OK {
			t.Fatalf("%d: %v", i, err)
		}
		m.keys[key] = api.KV{Key: key, Value: "v", Create: 1, Mod: 1, Version: 1}
		m.events = append(m.events, api.Event{Rev: 1, KV: m.keys[key]})
	}
	w.Done()
	isAs(t, s, m)
	return s, m
}

func TestP903AFullStore(t *testing.T) {
	for _, c := range []struct {
		n    int
		x    api.Txn
		want api.Errno
	}{
		{4095, then(put("new", "")), api.OK}, {4095, then(put("new", ""), put("newer", "")), api.ErrFull}, {4094, then(put("new", ""), put("newer", "")), api.OK}, {4095, then(put("new", ""), put("k0000", ""), put("k0001", "")), api.OK},
		{4096, then(put("new", "")), api.ErrFull}, {4096, then(put("k0000", "")), api.OK}, {4096, then(put("k0000", ""), put("k4095", ""), leased("k2000", 5)), api.OK}, {4096, then(put("k0000", ""), put("k4096", "")), api.ErrFull}, {4096, then(put("new", ""), put("k0000", "")), api.ErrFull},
		{4096, then(del("k0007", ""), put("new", "")), api.OK}, {4096, then(put("new", ""), del("k0007", "")), api.ErrFull}, {4096, then(del("k0007", ""), put("new", ""), put("newer", "")), api.ErrFull}, {4096, then(del("k0007", "k0009"), put("new", ""), put("newer", "")), api.OK}, {4096, then(del("none", ""), put("new", "")), api.ErrFull},
		{4096, then(del("k", "l"), put("new", ""), del("k0000", "")), api.OK},
		{4096, api.Txn{Then: ops(put("k0000", "")), Else: ops(put("new", ""))}, api.OK}, {4096, api.Txn{If: ifs(never), Then: ops(put("k0000", "")), Else: ops(put("new", ""))}, api.ErrFull}, {4096, api.Txn{If: ifs(never), Then: ops(put("new", ""))}, api.OK},
		{4096, then(get("k0000", "k0010", 0), put("new", ""), get("k", "", 0)), api.ErrFull}, {4096, then(put("k0000", "x"), del("k1", "k2"), leased("k0001", 5)), api.OK},
	} {
		s, m := filled(t, c.n)
		_, err := does(t, s, m, c.x)
		is(t, fmt.Sprintf("%d: %+v", c.n, c.x), err, c.want)
	}
}

// lengthened makes a store in which the range from v to w tells so many bytes.
func lengthened(t *testing.T, size int) (*mvcc.Store, *model) {
	t.Helper()
	s, m := of(t)
	for i := 0; size > 0; i++ {
		n := min(size, 4096)
		if size > 4096 && size < 8192 {
			n = 2048 // so that enough is left for one more
		}
		finds(t, s, m, then(put(fmt.Sprintf("v%c", 'a'+i), strings.Repeat("x", n-42))), "0[]")
		size -= n
	}
	return s, m
}

func TestP903HowMuchIsTold(t *testing.T) {
	for _, size := range []int{4096, 65535, 65536, 65537, 65538, 70000} {
		want := api.OK
		if size > 65536 {
			want = api.ErrLong
		}
		s, m := lengthened(t, size)
		rev := s.Rev()
		for _, x := range []api.Txn{then(get("v", "w", 0)), {If: ifs(never), Else: ops(get("v", "w", 0))}, then(get("v", "w", -1), get("x", "z", 0)), then(get("va", "vc", 0), get("vc", "w", 0)), then(get("v", "w", 99))} {
			_, err := does(t, s, m, x)
			is(t, fmt.Sprint(size), err, want)
			is(t, "Rev", s.Rev(), rev)
		}
		for _, x := range []api.Txn{then(get("v", "w", 1)), {Else: ops(get("v", "w", 0))}, {If: ifs(never), Then: ops(get("v", "w", 0))}, then(get("v", "vc", 0), get("v", "", 0))} {
			_, err := does(t, s, m, x)
			is(t, fmt.Sprint(size, ", not told"), err, api.OK)
		}
	}
}

// TestP903KeysAndNumbersCount: of keys without values, 24 bytes each, a range tells 64 each.
func TestP903KeysAndNumbersCount(t *testing.T) {
	s, m := of(t)
	for i := 0; i < 1024; i += 32 {
		var l []api.Op
		for j := range 32 {
			l = append(l, put(fmt.Sprintf("%024d", i+j), ""))
		}
		if did, _, err := txn.Do(s, nil, then(l...)); !did || err != api.OK {
			t.Fatalf("%d: %v", i, err)
		}
		m.do(then(l...))
	}
	isAs(t, s, m)
	_, err := does(t, s, m, then(get("0", "1", 0)))
	is(t, "1024 keys", err, api.OK)
	refuses(t, s, m, then(put("1", ""), get("0", "2", 0)), api.ErrLong)
	refuses(t, s, m, then(get("0", "1", 0), put("1", ""), get("1", "", 0)), api.ErrLong)
	refuses(t, s, m, then(put(fmt.Sprintf("%024d", 7), "x"), get("0", "1", 0)), api.ErrLong)
	_, err = does(t, s, m, then(put("1", ""), get("0", "2", 1024)))
	is(t, "1024 of 1025 keys", err, api.OK)
	refuses(t, s, m, then(get("0", "2", 1025)), api.ErrLong)
	_, err = does(t, s, m, then(del("1", ""), get("0", "2", 0)))
	is(t, "one went ahead", err, api.OK)
}

// TestP903SeveralRangesCountTogether: what is told twice counts twice.
func TestP903SeveralRangesCountTogether(t *testing.T) {
	s, m := of(t, then(put("k", strings.Repeat("x", 2007)))) // 2048 of it
	_, err := does(t, s, m, then(slices.Repeat(ops(get("k", "", 0)), 32)...))
	is(t, "32 times", err, api.OK)
	does(t, s, m, then(put("k", strings.Repeat("x", 2008))))
	refuses(t, s, m, then(slices.Repeat(ops(get("k", "", 0)), 32)...), api.ErrLong)
	_, err = does(t, s, m, then(slices.Repeat(ops(get("k", "", 0)), 31)...))
	is(t, "31 times", err, api.OK)
	_, err = does(t, s, m, then(append(slices.Repeat(ops(get("k", "", 0)), 31), put("big", largest))...))
	is(t, "what is put is not told", err, api.OK)
}

// TestP903WhatIsPutCounts: as it is when it is told, not as it was, nor as it will be.
func TestP903WhatIsPutCounts(t *testing.T) {
	s, m := lengthened(t, 65536)
	refuses(t, s, m, then(put("vz", ""), get("v", "w", 0)), api.ErrLong)
	finds(t, s, m, then(put("va", "shorter")), "1[]")
	refuses(t, s, m, then(put("va", largest), get("v", "w", 0)), api.ErrLong)
	_, err := does(t, s, m, then(get("v", "w", 0), put("va", largest)))
	is(t, "told ahead", err, api.OK)
	refuses(t, s, m, then(get("v", "w", 0)), api.ErrLong)
	_, err = does(t, s, m, then(del("va", ""), get("v", "w", 0)))
	is(t, "it went ahead", err, api.OK)
}

// TestP6WhichErrorDoTells: the first operation's that has one; what all ORange tell is no single one's, and named last.
func TestP6WhichErrorDoTells(t *testing.T) {
	s, m := filled(t, 4080)
	for i := range 16 {
		does(t, s, m, then(put(fmt.Sprintf("v%c", 'a'+i), largest)))
	}
	long, full, lease, fine := get("v", "w", 0), put("new", ""), leased("k0000", 6), put("k0001", "")
	for _, c := range []struct {
		l    []api.Op
		want api.Errno
	}{
		{ops(long), api.ErrLong}, {ops(full), api.ErrFull}, {ops(lease), api.ErrLease}, {ops(leased("new", 6)), api.ErrLease},
		{ops(full, lease), api.ErrFull}, {ops(lease, full), api.ErrLease}, {ops(fine, lease, full), api.ErrLease}, {ops(fine, full, lease), api.ErrFull},
		{ops(long, full), api.ErrFull}, {ops(full, long), api.ErrFull}, {ops(long, lease), api.ErrLease}, {ops(lease, long), api.ErrLease}, {ops(long, fine), api.ErrLong},
		{ops(long, lease, full), api.ErrLease}, {ops(lease, long, full), api.ErrLease}, {ops(full, long, lease), api.ErrFull}, {ops(long, full, lease), api.ErrFull},
		{ops(long, put("", "")), api.ErrArg}, {ops(full, put("", "")), api.ErrArg}, {ops(lease, put("k0000", "")), api.ErrTwice}, {ops(long, api.Op{Kind: 3}), api.ErrKind}, {ops(full, put("k0001", tooLarge)), api.ErrLong},
	} {
		refuses(t, s, m, then(c.l...), c.want)
		refuses(t, s, m, api.Txn{If: ifs(never), Then: ops(fine), Else: c.l}, c.want)
	}
}

func TestP903OneRevision(t *testing.T) {
	s, m := some(t)
	finds(t, s, m, then(put("z", ""), del("c", "f"), put("b", ""), put("a", "x"), del("g", "")), "0[] 2[] 0[] 1[] 1[]")
	is(t, "Rev", s.Rev(), 5)
	events, _ := s.Since(5)
	var l []string
	for _, e := range events {
		l = append(l, fmt.Sprint(e.Del, e.KV.Key, e.Rev, e.KV.Mod))
	}
	is(t, "Since", strings.Join(l, ", "), "falsez5 5, truec5 5, truee5 5, falseb5 5, falsea5 5, trueg5 5")
}

func TestP903NoRevisionWhereNothingIsChanged(t *testing.T) {
	s, m := some(t)
	for _, x := range []api.Txn{
		{}, then(get("a", "z", 0)), then(del("b", ""), del("x", "z"), get("a", "", 0)), then(slices.Repeat(ops(del("nothing", "nowhere")), 32)...),
		{Else: ops(put("a", ""))}, {If: ifs(never), Then: ops(put("a", ""), del("c", "")), Else: ops(get("c", "", 0))}, {If: ifs(never), Then: ops(del("c", "")), Else: ops(del("d", ""))},
	} {
		does(t, s, m, x)
		is(t, fmt.Sprint(x), s.Rev(), 4)
	}
	does(t, s, m, then(put("e", "3"))) // it is put as it is: a change all the same
	is(t, "Rev", s.Rev(), 5)
}

// TestP904WhatIsRefusedChangesNothing: nor does it bear on what is done behind it.
func TestP904WhatIsRefusedChangesNothing(t *testing.T) {
	s, m := filled(t, 4079)
	for i := range 16 {
		does(t, s, m, then(put(fmt.Sprintf("v%c", 'a'+i), largest)))
	}
	before, rev := s.Save(), s.Rev()
	change := ops(put("k0000", "changed"), del("k0001", "k0003"), leased("more", 5), put("most", ""))
	for want, x := range map[api.Errno]api.Txn{
		api.ErrMany:  {Then: append(slices.Clone(change), slices.Repeat(ops(get("a", "", 0)), 29)...)},
		api.ErrArg:   then(append(slices.Clone(change), put("", ""))...),
		api.ErrKind:  then(append(slices.Clone(change), api.Op{Kind: 3, Key: "a"})...),
		api.ErrTwice: then(append(slices.Clone(change), del("mor", "mos"))...),
		api.ErrLease: then(append(slices.Clone(change), leased("k0009", 6))...),
		api.ErrFull:  then(append(slices.Clone(change), put("much", ""), put("many", ""))...),
		api.ErrLong:  then(append(slices.Clone(change), get("v", "w", 0))...),
	} {
		did, r, err := txn.Do(s, m.leases, x)
		is(t, "Do", fmt.Sprint(did, len(r), err), fmt.Sprint(false, 0, want))
		is(t, want.Error()+", Save", bytes.Equal(s.Save(), before), true)
		is(t, want.Error()+", Rev", s.Rev(), rev)
		isAs(t, s, m)
	}
	finds(t, s, m, then(change...), "1[] 2[] 0[] 0[]")
}
