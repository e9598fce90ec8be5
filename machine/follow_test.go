package machine_test

import (
	"bytes"
	"fmt"
	"math/rand"
	"reflect"
	"runtime"
	"slices"
	"strings"
	"testing"

	"horologe/api"
	"horologe/machine"
)

// drawer draws commands; of so many clients, and one of wrong is wrong in some part.
type drawer struct {
	*rand.Rand
	clients int
	wrong   int
}

var drawnKeys = []string{"\x00", "a", "a\x00", "aa", "ab", "b", "ba", "c", "ü", "\xff", "\xff\xff"}

func (d *drawer) key() string { return drawnKeys[d.Intn(len(drawnKeys))] }

func (d *drawer) value() string { return []string{"", "x", "xx", "y", "\xff"}[d.Intn(5)] }

// lease draws one of a few, so that most of them are there now and then.
func (d *drawer) lease() int { return 1 + d.Intn(8) }

func (d *drawer) odd() int { return numbers[d.Intn(len(numbers))] }

func (d *drawer) isWrong() bool { return d.Intn(d.wrong) == 0 }

func (d *drawer) comparison() api.If {
	c := api.If{Key: d.key(), Target: d.Intn(5), Sign: d.Intn(4), N: d.Intn(9), Text: d.value()}
	if d.isWrong() {
		c.Target = d.odd()
	}
	return c
}

func (d *drawer) op() api.Op {
	op := api.Op{Kind: []int{0, 0, 0, 1, 2, 2}[d.Intn(6)], Key: d.key(), Value: d.value(), Limit: d.Intn(4) - 1}
	switch {
	case op.Kind == api.OPut && d.Intn(2) == 0:
		op.Lease = d.lease()
	case op.Kind != api.OPut && d.Intn(2) == 0:
		if op.End = d.key(); op.End < op.Key {
			op.Key, op.End = op.End, op.Key
		}
		if op.Key == op.End {
			op.End += "\x00"
		}
	}
	if d.isWrong() {
		op.Kind, op.Lease = d.odd(), d.odd()
	}
	return op
}

func (d *drawer) txn() api.Txn {
	var x api.Txn
	for range d.Intn(3) * d.Intn(2) {
		x.If = append(x.If, d.comparison())
	}
	for range d.Intn(4) {
		x.Then = append(x.Then, d.op())
	}
	for range d.Intn(3) {
		x.Else = append(x.Else, d.op())
	}
	return x
}

// command draws one for a machine that is as m is.
func (d *drawer) command(m *model) api.Cmd {
	c := api.Cmd{Kind: []int{0, 0, 0, 0, 0, 0, 1, 1, 1, 2, 3, 4, 4, 5, 6, 7}[d.Intn(16)]}
	switch c.Kind {
	case api.CTxn:
		c.Txn = d.txn()
	case api.CGrant, api.CRenew, api.CRevoke:
		c.Lease, c.TTL = d.lease(), 1+d.Intn(20)
	case api.CClock:
		c.Time = m.clock + d.Intn(8) - 2
	case api.CCompact:
		c.Rev = m.compacted + d.Intn(9) - 2
	}
	if d.isWrong() {
		c.Lease, c.TTL, c.Rev = d.odd(), d.odd(), d.odd()
		if c.Time = d.odd(); c.Time == 1<<40 && d.Intn(10) > 0 {
			c.Time = -1 // else the clock would mostly stand there
		}
	}
	return d.call(m, c)
}

// call makes a command somebody's: mostly the next one of a client, at times the last one again, or an elder one.
func (d *drawer) call(m *model, c api.Cmd) api.Cmd {
	if d.Intn(3) == 0 {
		return c
	}
	client, seq := 1+d.Intn(d.clients), 1
	if i := slices.IndexFunc(m.rows, func(r row) bool { return r.client == client }); i >= 0 {
		seq = m.rows[i].seq + []int{-1, 0, 1, 1, 1, 4}[d.Intn(6)]
	}
	if d.isWrong() {
		client, seq = d.odd(), d.odd()
	}
	return by(client, seq, c)
}

// TestP1204TwoMachinesAndAModel gives drawn commands to two machines, one of which is saved and loaded between, as bytes and back; all that both tell is held against the model.
func TestP1204TwoMachinesAndAModel(t *testing.T) {
	drawn := map[string]int{}
	for seed := range int64(40) {
		d := &drawer{Rand: rand.New(rand.NewSource(120400 + seed)), clients: []int{3, 10, 70, 200}[seed%4], wrong: 10 + 30*int(seed%3)}
		x, y, m := machine.New(), machine.New(), newModel()
		for i := range 300 {
			c := d.command(m)
			want := m.apply(c)
			if got := told(x.Apply(c)); got != want {
				t.Fatalf("seed %d, %d: %+v: %s, not %s", seed, i, c, got, want)
			}
			if d.Intn(4) == 0 {
				y = loaded(t, y)
			}
			if b, err := machine.EncodeCmd(c); err == api.OK { // as a node does it
				c, _ = machine.ParseCmd(b)
			}
			if got := told(y.Apply(c)); got != want {
				t.Fatalf("seed %d, %d: %+v, saved and loaded: %s, not %s", seed, i, c, got, want)
			}
			if i%5 == 0 {
				isAs(t, x, m)
				isAs(t, y, m)
				is(t, "Save", bytes.Equal(x.Save(), y.Save()), true)
			}
			drawn[fmt.Sprint(c.Kind)]++
			drawn[strings.Fields(want)[0]]++
		}
		isAs(t, x, m)
		isAs(t, y, m)
	}
	for _, what := range []string{"0", "1", "2", "3", "4", "5", "6", "7", "ok", "arg", "none", "kind", "many", "is", "lease", "twice", "past", "future", "stale"} {
		if drawn[what] < 20 {
			t.Errorf("%s was drawn %d times: %v", what, drawn[what], drawn)
		}
	}
}

// TestP1204BehindEachCommand holds all that is told against the model and the machine that was not loaded, behind each single command.
func TestP1204BehindEachCommand(t *testing.T) {
	for seed := range int64(6) {
		d := &drawer{Rand: rand.New(rand.NewSource(120450 + seed)), clients: 4, wrong: 30}
		x, m := machine.New(), newModel()
		for range 150 {
			c := d.command(m)
			y := loaded(t, x)
			want := m.apply(c)
			is(t, "Apply", told(x.Apply(c)), want)
			is(t, "Apply, of the one that was loaded", told(y.Apply(c)), want)
			isAs(t, x, m)
			isAs(t, y, m)
			is(t, "Save", bytes.Equal(x.Save(), y.Save()), true)
		}
	}
}

// TestW3NothingButItsCommands: another machine that is given what was done is the same, whatever was asked between.
func TestW3NothingButItsCommands(t *testing.T) {
	d := &drawer{Rand: rand.New(rand.NewSource(1203)), clients: 5, wrong: 20}
	x, m := machine.New(), newModel()
	var l []api.Cmd
	for range 400 {
		c := d.command(m)
		l = append(l, c)
		does(t, x, m, c)
		x.Save()
		x.Leases()
		x.Store().Range("a", "z", 0, 0)
	}
	y := machine.New()
	for _, c := range l {
		y.Apply(c)
	}
	is(t, "Save", bytes.Equal(x.Save(), y.Save()), true)
	isAs(t, y, m)
}

// TestP1WhateverIsHandedIn applies commands of any numbers and texts.
func TestP1WhateverIsHandedIn(t *testing.T) {
	r := rand.New(rand.NewSource(1))
	texts := []string{"", "\x00", strings.Repeat("k", 100), strings.Repeat("k", 101), strings.Repeat("v", 4096), strings.Repeat("v", 4097), "\xed\xa0\x80"}
	n := func() int {
		if r.Intn(3) > 0 {
			return r.Intn(3)
		}
		return numbers[r.Intn(len(numbers))]
	}
	text := func() string {
		if r.Intn(2) > 0 {
			return []string{"a", "b", "c"}[r.Intn(3)]
		}
		return texts[r.Intn(len(texts))]
	}
	ops := func() []api.Op {
		l := make([]api.Op, r.Intn(3)*r.Intn(2))
		for i := range l {
			l[i] = api.Op{Kind: n(), Key: text(), Value: text(), Lease: n(), Limit: n()}
			if r.Intn(4) == 0 {
				l[i].End = text()
			}
		}
		return l
	}
	x, m := machine.New(), newModel()
	for i := range 6000 {
		c := api.Cmd{Client: n() * r.Intn(2), Seq: n(), Kind: n() * r.Intn(3), Txn: api.Txn{If: make([]api.If, r.Intn(2)), Then: ops(), Else: ops()}, Lease: n(), TTL: n(), Time: n(), Rev: n()}
		for i := range c.Txn.If {
			c.Txn.If[i] = api.If{Key: text(), Target: n(), Sign: n(), N: n(), Text: text()}
		}
		does(t, x, m, c)
		machine.SameCmd(c, full(0))
		if b, err := machine.EncodeCmd(c); err == api.OK {
			y, err := machine.ParseCmd(b)
			is(t, "there and back", err == api.OK && machine.SameCmd(y, c), true)
		}
		if i%500 == 499 {
			isAs(t, x, m)
			isAs(t, loaded(t, x), m)
		}
	}
	if m.rev() < 50 {
		t.Errorf("%d revisions were made: too few to be of use here", m.rev())
	}
}

// roomy is a list with spare room behind it, which is not its own.
func roomy[T any](list []T, spare T) []T {
	return append(append(make([]T, 0, len(list)+2), list...), spare, spare)[:len(list)]
}

// whole is a list with its spare room.
func whole[T any](list []T) []T { return list[:cap(list)] }

// TestP2WhatIsHandedInStays as it was, and is not kept.
func TestP2WhatIsHandedInStays(t *testing.T) {
	d := &drawer{Rand: rand.New(rand.NewSource(2)), clients: 4, wrong: 20}
	x, m := machine.New(), newModel()
	for range 500 {
		c := d.command(m)
		c.Txn.If, c.Txn.Then, c.Txn.Else = roomy(c.Txn.If, api.If{Key: "spare"}), roomy(c.Txn.Then, put("spare", "")), roomy(c.Txn.Else, put("spare", ""))
		was := fmt.Sprintf("%+v %+v %+v", whole(c.Txn.If), whole(c.Txn.Then), whole(c.Txn.Else))
		want := m.apply(c)
		r := x.Apply(c)
		is(t, "Apply", told(r), want)
		is(t, "what was handed in", fmt.Sprintf("%+v %+v %+v", whole(c.Txn.If), whole(c.Txn.Then), whole(c.Txn.Else)), was)
		clear(whole(c.Txn.If))
		clear(whole(c.Txn.Then))
		clear(whole(c.Txn.Else))
		is(t, "what was answered", told(r), want)
		isAs(t, x, m)
	}
}

// spoil overwrites all lists of a reply, their spare room too.
func spoil(r api.Reply) {
	for i := range whole(r.Results) {
		kvs := whole(whole(r.Results)[i].KVs)
		for j := range kvs {
			kvs[j] = api.KV{Key: "spoilt", Value: "spoilt", Create: -9, Mod: -9, Version: -9, Lease: -9}
		}
		whole(r.Results)[i].N = -9
	}
}

// TestP2AnswersAreTheCallersOwn: a reply that was told is not the one that was noted, nor anything of the store.
func TestP2AnswersAreTheCallersOwn(t *testing.T) {
	x, m := of(t, cmd(put("a", "1"), put("b", "2")))
	c := by(3, 5, cmd(put("a", "2"), get("a", "z", 0), get("a", "", 0), get("a", "z", 0)))
	want := m.apply(c)
	for range 4 { // done the first time, and answered as it was then
		r, other := x.Apply(c), x.Apply(c)
		is(t, "Apply", told(r), want)
		spoil(r)
		is(t, "another answer", told(other), want)
		isAs(t, x, m)
		spoil(other)
		isAs(t, loaded(t, x), m)
	}
	c.Client = 0
	want = m.apply(c)
	r := x.Apply(c)
	is(t, "Apply, of nobody", told(r), want)
	spoil(r)
	isAs(t, x, m)
}

// TestP2ListsOfOneAnswer share nothing with each other, nor do their spare rooms.
func TestP2ListsOfOneAnswer(t *testing.T) {
	x, _ := of(t, cmd(put("a", "1"), put("b", "2")))
	c := by(3, 5, cmd(get("a", "z", 0), get("a", "", 0), get("a", "z", 0), get("none", "", 0), get("a", "z", 1)))
	for range 2 {
		for i := range 5 {
			r := x.Apply(c)
			var was []string
			for _, one := range r.Results {
				was = append(was, toldKeys(one.KVs))
			}
			for j := range whole(r.Results[i].KVs) {
				whole(r.Results[i].KVs)[j] = api.KV{Key: "spoilt"}
			}
			_ = append(r.Results[i].KVs, api.KV{Key: "more"}, api.KV{Key: "more"})
			for j, one := range r.Results {
				if j != i {
					is(t, fmt.Sprint("list ", j), toldKeys(one.KVs), was[j])
				}
			}
		}
		c.Client = 0
	}
}

// TestP3TheSameCallsAnswerTheSame in two machines, byte by byte.
func TestP3TheSameCallsAnswerTheSame(t *testing.T) {
	made := func() string {
		d := &drawer{Rand: rand.New(rand.NewSource(3)), clients: 90, wrong: 40}
		x, m := machine.New(), newModel()
		var b strings.Builder
		for range 500 {
			c := d.command(m)
			fmt.Fprintln(&b, does(t, x, m, c), toldLeases(x.Leases()), x.Clock())
		}
		return b.String() + string(x.Save())
	}
	if made() != made() {
		t.Error("two machines that were called alike differ")
	}
}

// TestP4WhatIsNotNamedIsZero: beside an error, and of kinds that tell nothing.
func TestP4WhatIsNotNamedIsZero(t *testing.T) {
	d := &drawer{Rand: rand.New(rand.NewSource(4)), clients: 80, wrong: 15}
	x, m := machine.New(), newModel()
	for range 2000 {
		c := d.command(m)
		m.apply(c)
		r := x.Apply(c)
		tells := r.Then || len(r.Results) > 0
		if tells && (r.Err != api.OK || c.Client == 0 && c.Kind != api.CTxn) {
			t.Fatalf("%+v: %s", c, told(r))
		}
		if r.Err == api.ErrStale && told(r) != refused(api.ErrStale) {
			t.Fatalf("%+v: %s", c, told(r))
		}
	}
}

func TestP7MachinesAreOfTheirOwn(t *testing.T) {
	x, m := of(t, clock(5), grant(1, 9), cmd(leased("a", 1)), by(3, 3, cmd(put("b", ""))))
	y, other := of(t)
	if x.Store() == y.Store() {
		t.Error("they have one store")
	}
	does(t, y, other, by(3, 1, cmd(put("a", "other"))), grant(1, 2), clock(99), expire(), cmd(del("a", "z")))
	isAs(t, x, m)
	does(t, x, m, revoke(1), by(3, 4, clock(6)), compact(2))
	isAs(t, y, other)
	b := x.Save()
	p, _ := machine.Load(b)
	q, _ := machine.Load(b)
	p.Apply(cmd(put("c", "")))
	p.Apply(grant(8, 8))
	p.Apply(by(3, 9, clock(1000)))
	isAs(t, q, m)
	isAs(t, x, m)
	is(t, "Save", reflect.DeepEqual(q.Save(), b), true)
}

// TestNothingIsHeldOfLongTexts: keys and values that are pieces of a long text, and replies ahead of a client's last one.
func TestNothingIsHeldOfLongTexts(t *testing.T) {
	held := func() uint64 {
		runtime.GC()
		var m runtime.MemStats
		runtime.ReadMemStats(&m)
		return m.HeapAlloc
	}
	x := machine.New()
	before := held()
	for i := range 40 {
		long := strings.Repeat("x", 1<<20)
		x.Apply(by(1+i%3, 1+i, cmd(put(fmt.Sprint(i)+long[:5], long[5:9]), get("0", "z", 0))))
		x.Apply(by(9, 1+i, cmd(put("a", strings.Repeat("y", 4096)), get("a", "", 0))))
		x.Apply(by(9, 1+i, cmd(put(long, long))))
	}
	if after := held(); after > before+1<<22 {
		t.Errorf("%d bytes are held", after-before)
	}
	runtime.KeepAlive(x)
}
