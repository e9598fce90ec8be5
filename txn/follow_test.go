package txn_test

import (
	"bytes"
	"fmt"
	"math"
	"math/rand"
	"runtime"
	"slices"
	"strings"
	"testing"
	"unsafe"

	"horologe/api"
	"horologe/mvcc"
	"horologe/txn"
)

// drawer draws transactions; which texts and numbers it may take says how many of them may not be.
type drawer struct {
	*rand.Rand
	keys    []string
	values  []string
	numbers []int // of N and Limit
	deletes int   // how many of ten operations delete
	wrong   int   // one of so many parts is wrong
}

func (d *drawer) key() string { return d.keys[d.Intn(len(d.keys))] }

func (d *drawer) value() string { return d.values[d.Intn(len(d.values))] }

func (d *drawer) number() int { return d.numbers[d.Intn(len(d.numbers))] }

func (d *drawer) isWrong() bool { return d.Intn(d.wrong) == 0 }

func (d *drawer) comparison() api.If {
	c := api.If{Key: d.key(), Target: d.Intn(5), Sign: d.Intn(4), N: d.number(), Text: d.value()}
	if d.isWrong() {
		switch d.Intn(3) {
		case 0:
			c.Key = []string{"", tooLong}[d.Intn(2)]
		case 1:
			c.Target = []int{-1, 5, math.MinInt, math.MaxInt}[d.Intn(4)]
		case 2:
			c.Sign = []int{-1, 4, math.MinInt, math.MaxInt}[d.Intn(4)]
		}
	}
	return c
}

func (d *drawer) op() api.Op {
	op := api.Op{Kind: []int{api.OPut, api.ORange}[d.Intn(2)], Key: d.key(), Value: d.value(), Limit: d.number()}
	if d.Intn(10) < d.deletes {
		op.Kind = api.ODelete
	}
	switch {
	case op.Kind == api.OPut && d.Intn(3) == 0:
		op.Lease = d.Intn(12)
	case op.Kind != api.OPut && d.Intn(3) > 0:
		if op.End = d.key(); op.End < op.Key {
			op.Key, op.End = op.End, op.Key
		}
		if op.Key == op.End {
			op.End += "\x00"
		}
	}
	if d.isWrong() {
		switch d.Intn(5) {
		case 0:
			op.Key = []string{"", tooLong}[d.Intn(2)]
		case 1:
			op.Kind = []int{-1, 3, math.MinInt, math.MaxInt}[d.Intn(4)]
		case 2:
			op.End = op.Key
		case 3:
			op.Lease = []int{-1, 77, math.MinInt, math.MaxInt}[d.Intn(4)]
		case 4:
			op.Value = tooLarge
		}
	}
	return op
}

func (d *drawer) branch() []api.Op {
	var l []api.Op
	for range d.Intn(6) {
		l = append(l, d.op())
	}
	if d.isWrong() && d.Intn(3) == 0 {
		l = append(l, slices.Repeat(ops(get("a", "", 0)), 30)...)
	}
	return l
}

func (d *drawer) txn() api.Txn {
	x := api.Txn{Then: d.branch(), Else: d.branch()}
	for range d.Intn(3) {
		x.If = append(x.If, d.comparison())
	}
	return x
}

var plainKeys = []string{"\x00", "a", "a\x00", "aa", "ab", "b", "ba", "c", "ü", "\xff", "\xff\xff"}

// TestP904AsTheModel draws transactions, such as may not be too, and holds all that is told against the model.
func TestP904AsTheModel(t *testing.T) {
	told := map[api.Errno]int{}
	for seed := range int64(60) {
		d := &drawer{Rand: rand.New(rand.NewSource(904000 + seed)), keys: plainKeys, values: []string{"", "x", "xx", "y", "\xff"}, numbers: []int{-1, 0, 0, 1, 2, 3, 5, 8}, deletes: 3, wrong: 15 + 10*int(seed%5)}
		s, m := of(t)
		for range 200 {
			_, err := does(t, s, m, d.txn())
			told[err]++
		}
	}
	for _, err := range []api.Errno{api.OK, api.ErrArg, api.ErrKind, api.ErrMany, api.ErrLong, api.ErrTwice, api.ErrLease} {
		if told[err] < 30 {
			t.Errorf("%v was drawn %d times", err, told[err])
		}
	}
}

// TestP904AsTheModelWithMuchToTell draws long values, so that ranges tell too much now and then.
func TestP904AsTheModelWithMuchToTell(t *testing.T) {
	told := map[api.Errno]int{}
	for seed := range int64(10) {
		d := &drawer{Rand: rand.New(rand.NewSource(904100 + seed)), keys: plainKeys, values: []string{largest, largest[5:], largest[2000:]}, numbers: []int{0, 0, 0, 4}, deletes: 1, wrong: 100}
		s, m := of(t)
		for range 150 {
			x := d.txn()
			for range d.Intn(4) {
				x.Then = append(x.Then, get("\x00", beyond, 0))
			}
			_, err := does(t, s, m, x)
			told[err]++
		}
	}
	if told[api.OK] < 100 || told[api.ErrLong] < 50 {
		t.Errorf("drawn: %v", told)
	}
}

// TestP904AsTheModelWithLittleRoom draws on a store that is nearly full.
func TestP904AsTheModelWithLittleRoom(t *testing.T) {
	told := map[api.Errno]int{}
	for seed := range int64(3) {
		d := &drawer{Rand: rand.New(rand.NewSource(904200 + seed)), keys: append([]string{"k0000", "k0001", "k0002", "k0003"}, plainKeys[1:8]...), values: []string{"", "x"}, numbers: []int{0, 1, 2}, deletes: 2, wrong: 100}
		s, m := filled(t, 4095)
		for range 100 {
			_, err := does(t, s, m, d.txn())
			told[err]++
		}
	}
	if told[api.OK] < 50 || told[api.ErrFull] < 10 {
		t.Errorf("drawn: %v", told)
	}
}

// TestP904OneRevisionOrNone: and all that it changed has that one.
func TestP904OneRevisionOrNone(t *testing.T) {
	d := &drawer{Rand: rand.New(rand.NewSource(9042)), keys: plainKeys, values: []string{"", "x"}, numbers: []int{0, 1, 2}, deletes: 3, wrong: 30}
	s := mvcc.New()
	one, none := 0, 0
	for range 2000 {
		rev := s.Rev()
		was, _, _ := s.Range("", beyond, 0, 0)
		_, _, err := txn.Do(s, leases{1: true}, d.txn())
		is(t, "a revision", s.Rev() == rev || s.Rev() == rev+1 && err == api.OK, true)
		now, _, _ := s.Range("", beyond, 0, 0)
		if s.Rev() == rev {
			is(t, "what is there", slices.Equal(was, now), true)
			none++
			continue
		}
		one++
		is(t, "what is there", slices.Equal(was, now), false)
		for _, kv := range now {
			is(t, "Mod of what was changed", slices.Contains(was, kv) || kv.Mod == rev+1, true)
		}
	}
	if one < 200 || none < 200 {
		t.Errorf("%d made one, %d none", one, none)
	}
}

// TestP904NobodyIsOvertaken: of many who put a key if it is as they saw it one does each time.
func TestP904NobodyIsOvertaken(t *testing.T) {
	s, m := of(t)
	for range 50 {
		l, _, _ := s.Range("counter", "", 0, 0)
		seen := 0
		if len(l) > 0 {
			seen = l[0].Mod
		}
		did := 0
		for who := range 5 {
			x := api.Txn{If: ifs(api.If{Key: "counter", Target: api.TMod, N: seen}), Then: ops(put("counter", fmt.Sprint(who)))}
			then, _, _ := txn.Do(s, nil, x)
			m.do(x)
			if then {
				did++
			}
		}
		is(t, "how many did", did, 1)
		isAs(t, s, m)
	}
	is(t, "Version", m.keys["counter"].Version, 50)
}

func TestP1WhateverIsHandedIn(t *testing.T) {
	numbers := []int{math.MinInt, math.MinInt + 1, -1 << 62, -1, 0, 1, 2, 3, 4, 5, 1 << 31, 1 << 62, math.MaxInt - 1, math.MaxInt}
	texts := []string{"", "\x00", "a", "b", longest, tooLong, largest, tooLarge, strings.Repeat("\xff", 10000), "\xed\xa0\x80"}
	r := rand.New(rand.NewSource(901))
	number := func() int {
		if r.Intn(4) > 0 {
			return r.Intn(2)
		}
		return numbers[r.Intn(len(numbers))]
	}
	text := func() string { return texts[r.Intn(len(texts))] }
	branch := func() []api.Op {
		l := make([]api.Op, r.Intn(3))
		for i := range l {
			l[i] = api.Op{Kind: number(), Key: text(), End: text(), Value: text(), Lease: number(), Limit: number()}
			if r.Intn(4) > 0 {
				l[i].End = ""
			}
		}
		return l
	}
	for _, s := range []*mvcc.Store{mvcc.New(), {}} {
		m := newModel(1, math.MaxInt)
		for range 3000 {
			x := api.Txn{If: make([]api.If, r.Intn(2)), Then: branch(), Else: branch()}
			for i := range x.If {
				x.If[i] = api.If{Key: text(), Target: number(), Sign: number(), N: number(), Text: text()}
			}
			is(t, "Check", txn.Check(x), modelCheck(x))
			is(t, "Holds", txn.Holds(s, x.If...), m.holds(x.If...))
			does(t, s, m, x)
		}
		is(t, "something was done", m.rev > 20, true)
	}
}

// roomy is a list with spare room behind it, which is not its own.
func roomy[T any](list []T, spare T) []T {
	return append(append(make([]T, 0, len(list)+2), list...), spare, spare)[:len(list)]
}

func TestP2WhatIsHandedInStays(t *testing.T) {
	d := &drawer{Rand: rand.New(rand.NewSource(902)), keys: plainKeys, values: []string{"", "x"}, numbers: []int{0, 1, 2}, deletes: 3, wrong: 20}
	s, _ := some(t)
	for range 500 {
		x := d.txn()
		x.If, x.Then, x.Else = roomy(x.If, api.If{Key: "spare"}), roomy(x.Then, put("spare", "")), roomy(x.Else, del("spare", ""))
		was := fmt.Sprintf("%+v %+v %+v", x.If[:cap(x.If)], x.Then[:cap(x.Then)], x.Else[:cap(x.Else)])
		txn.Check(x)
		txn.Holds(s, x.If...)
		txn.Do(s, leases{1: true}, x)
		is(t, "what was handed in", fmt.Sprintf("%+v %+v %+v", x.If[:cap(x.If)], x.Then[:cap(x.Then)], x.Else[:cap(x.Else)]), was)
		clear(x.If[:cap(x.If)])
		clear(x.Then[:cap(x.Then)])
		clear(x.Else[:cap(x.Else)])
		l, _, _ := s.Range("spare", "", 0, 0)
		is(t, "what stood in spare room", len(l), 0)
	}
}

// TestP2WhatIsHandedInIsNotKept: what was done stays, though the lists of the transaction are changed then.
func TestP2WhatIsHandedInIsNotKept(t *testing.T) {
	s := mvcc.New()
	l := ops(put("a", "1"), put("b", "2"), get("a", "z", 0))
	_, r, _ := txn.Do(s, nil, then(l...))
	clear(l)
	is(t, "what is there", all(s), "a=1/1.1.1.0 b=2/1.1.1.0")
	is(t, "what was told", toldResults(r), "0[] 0[] 2[a=1/1.1.1.0 b=2/1.1.1.0]")
}

// TestP2TextsAreNotKept hands in texts that are pieces of a longer one, which would be kept with them.
func TestP2TextsAreNotKept(t *testing.T) {
	long := strings.Repeat("nightly", 1000)
	s := mvcc.New()
	_, r, _ := txn.Do(s, nil, then(put(long[:7], long[7:14]), get(long[:7], "", 0)))
	l, _, _ := s.Range("nightly", "", 0, 0)
	for _, kv := range append(l, r[1].KVs...) {
		if unsafe.StringData(kv.Key) == unsafe.StringData(long) || unsafe.StringData(kv.Value) == unsafe.StringData(long[7:]) {
			t.Error("what was handed in is kept")
		}
	}
}

// spoil changes all that an answer has, its spare room too.
func spoil(l []api.Result) {
	l = l[:cap(l)]
	for i := range l {
		kvs := l[i].KVs[:cap(l[i].KVs)]
		for j := range kvs {
			kvs[j] = api.KV{Key: "spoilt"}
		}
		l[i].N = -1
	}
}

func TestP2AnswersAreTheCallersOwn(t *testing.T) {
	s, m := some(t)
	x := then(put("b", "x"), get("a", "z", 0), get("a", "z", 3), del("c", ""), get("a", "z", 0), get("a", "z", 0))
	for range 3 {
		_, r, _ := txn.Do(s, m.leases, x)
		m.do(x)
		isAs(t, s, m)
		spoil(r)
		isAs(t, s, m)
	}
	_, r, _ := txn.Do(s, m.leases, x)
	was := make([]string, len(r))
	for i := range r {
		was[i] = toldResults(r[i : i+1])
	}
	for i := range r { // no two lists share anything, nor do their spare rooms
		spoil([]api.Result{r[i]})
		_ = append(r[i].KVs, api.KV{Key: "more"})
		for j := i + 1; j < len(r); j++ {
			is(t, "another list", toldResults(r[j:j+1]), was[j])
		}
	}
}

func TestP2AnAnswerStaysAsItWas(t *testing.T) {
	s, m := some(t)
	_, r, _ := txn.Do(s, m.leases, then(get("a", "z", 0), get("c", "", 0)))
	was := toldResults(r)
	txn.Do(s, m.leases, then(put("a", "new"), del("c", "z"), put("b", "")))
	txn.Do(s, m.leases, then(del("a", "z")))
	s.Compact(s.Rev())
	is(t, "what was told", toldResults(r), was)
}

func TestP3TheSameCallsAnswerTheSame(t *testing.T) {
	made := func() ([]byte, string) {
		d := &drawer{Rand: rand.New(rand.NewSource(903)), keys: plainKeys, values: []string{"", "x", "y"}, numbers: []int{0, 1, 2}, deletes: 3, wrong: 40}
		s := mvcc.New()
		var told strings.Builder
		for range 300 {
			did, r, err := txn.Do(s, leases{1: true, 2: true}, d.txn())
			fmt.Fprintln(&told, did, toldResults(r), err)
		}
		return s.Save(), told.String()
	}
	b, told := made()
	again, toldAgain := made()
	is(t, "Save", bytes.Equal(b, again), true)
	is(t, "answers", told == toldAgain, true)
}

// TestP4Answers: what an operation's kind says nothing of is zero, and so is all beside an error.
func TestP4Answers(t *testing.T) {
	d := &drawer{Rand: rand.New(rand.NewSource(904)), keys: plainKeys, values: []string{"", "x"}, numbers: []int{0, 1, 2}, deletes: 3, wrong: 20}
	s := mvcc.New()
	for range 2000 {
		x := d.txn()
		did, r, err := txn.Do(s, leases{1: true}, x)
		l := x.Else
		if did {
			l = x.Then
		}
		if err != api.OK {
			is(t, "beside an error", did || len(r) > 0, false)
			continue
		}
		is(t, "how many results", len(r), len(l))
		for i, op := range l {
			is(t, "keys of an OPut, an ODelete", op.Kind != api.ORange && len(r[i].KVs) > 0, false)
			is(t, "N of an OPut", op.Kind == api.OPut && (r[i].N < 0 || r[i].N > 1), false)
		}
	}
}

// TestNothingIsKeptOfWhatWasRefused: a write by hand goes on from what is there.
func TestNothingIsKeptOfWhatWasRefused(t *testing.T) {
	s, m := some(t)
	before := s.Save()
	txn.Do(s, m.leases, then(put("b", ""), del("c", ""), leased("y", 77)))
	w := s.Write()
	kvs, n := w.Range("a", "z", 0)
	is(t, "within a write", fmt.Sprint(n, told(kvs)), "4a=11/1.3.2.0 c=/1.1.1.5 e=3/2.2.1.0 g=/4.4.1.0")
	is(t, "Done", w.Done(), 4)
	is(t, "Save", bytes.Equal(s.Save(), before), true)
}

// TestNothingIsHeldOfWhatWasRefused: nor do stores hold the values that were to be put.
func TestNothingIsHeldOfWhatWasRefused(t *testing.T) {
	var l []api.Op
	for i := range 31 {
		l = append(l, put(fmt.Sprint("k", i), largest))
	}
	l = append(l, leased("y", 77))
	held := func() uint64 {
		runtime.GC()
		var m runtime.MemStats
		runtime.ReadMemStats(&m)
		return m.HeapAlloc
	}
	stores := make([]*mvcc.Store, 300) // some 38 MB of values
	before := held()
	for i := range stores {
		stores[i] = mvcc.New()
		_, _, err := txn.Do(stores[i], leases{}, then(l...))
		is(t, "Do", err, api.ErrLease)
	}
	if after := held(); after > before+1<<23 {
		t.Errorf("%d bytes are held", after-before)
	}
	runtime.KeepAlive(stores)
}
