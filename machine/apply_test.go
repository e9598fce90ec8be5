package machine_test

import (
	"fmt"
	"math"
	"slices"
	"strings"
	"testing"

	"horologe/api"
	"horologe/lease"
	"horologe/machine"
)

// step is a command and the reply that it must have.
type step struct {
	cmd  api.Cmd
	want string
}

// goes does commands on a new machine, and holds each reply against what was to come, and all that the machine shows against the model.
func goes(t *testing.T, l ...step) (*machine.Machine, *model) {
	t.Helper()
	x, m := machine.New(), newModel()
	for i, s := range l {
		if got := does(t, x, m, s.cmd); got != s.want {
			t.Fatalf("%d: %+v: %s, not %s", i, s.cmd, got, s.want)
		}
		isAs(t, x, m)
	}
	return x, m
}

func TestP1202Transactions(t *testing.T) {
	never := []api.If{{Key: "a", Target: api.TVersion, Sign: api.SLess}}
	goes(t,
		step{api.Cmd{}, "ok rev 0 then true time 0:"},
		step{api.Cmd{Txn: api.Txn{If: never}}, "ok rev 0 then false time 0:"},
		step{cmd(put("a", "1"), put("b", "2")), "ok rev 1 then true time 0: 0[] 0[]"},
		step{cmd(get("a", "c", 0)), "ok rev 1 then true time 0: 2[a=1/1.1.1.0 b=2/1.1.1.0]"},
		step{cmd(get("a", "c", 1), put("a", "3"), get("a", "", 0), del("b", "z"), get("b", "", 0)), "ok rev 2 then true time 0: 2[a=1/1.1.1.0] 1[] 1[a=3/1.2.2.0] 1[] 0[]"},
		step{clock(77), "ok rev 2 then false time 77:"},
		step{api.Cmd{Txn: api.Txn{If: never, Then: []api.Op{put("x", "then")}, Else: []api.Op{put("y", "else"), get("x", "z", 0)}}}, "ok rev 3 then false time 77: 0[] 1[y=else/3.3.1.0]"},
		step{cmd(del("none", "")), "ok rev 3 then true time 77: 0[]"},
		step{cmd(del("a", "z")), "ok rev 4 then true time 77: 2[]"},
		step{cmd(put("a", "again")), "ok rev 5 then true time 77: 0[]"},
	)
}

func TestP1202TransactionsThatAreRefused(t *testing.T) {
	x, m := of(t, clock(50), grant(7, 9), cmd(put("a", "1"), leased("b", 7)))
	for _, c := range []struct {
		cmd  api.Cmd
		want api.Errno
	}{
		{cmd(put("c", ""), put("", "")), api.ErrArg},
		{cmd(put("c", ""), put(strings.Repeat("k", 101), "")), api.ErrArg},
		{cmd(put("c", ""), leased("d", -1)), api.ErrArg},
		{cmd(put("c", ""), get("d", "d", 0)), api.ErrArg},
		{cmd(put("c", ""), api.Op{Kind: 3, Key: "d"}), api.ErrKind},
		{cmd(put("c", ""), api.Op{Kind: -1, Key: "d"}), api.ErrKind},
		{cmd(put("c", ""), put("d", strings.Repeat("v", 4097))), api.ErrLong},
		{cmd(put("c", ""), put("c", "")), api.ErrTwice},
		{cmd(put("a", ""), del("a", "b")), api.ErrTwice},
		{cmd(slices.Repeat([]api.Op{get("a", "", 0)}, 33)...), api.ErrMany},
		{cmd(put("c", ""), leased("d", 8)), api.ErrLease},
		{cmd(del("a", "c"), leased("d", 8)), api.ErrLease},
		{cmd(put("c", ""), leased("d", math.MaxInt)), api.ErrLease},
		{api.Cmd{Txn: api.Txn{If: []api.If{{Key: "a", Target: 5}}, Then: []api.Op{put("c", "")}, Else: []api.Op{put("c", "")}}}, api.ErrKind},
		{api.Cmd{Txn: api.Txn{If: []api.If{{Key: ""}}, Then: []api.Op{put("c", "")}}}, api.ErrArg},
	} {
		is(t, fmt.Sprintf("%.100s", fmt.Sprintf("%+v", c.cmd.Txn)), does(t, x, m, c.cmd), told(api.Reply{Err: c.want, Rev: 1, Time: 50}))
		isAs(t, x, m)
	}
	var l []api.Op
	for i := range 16 {
		l = append(l, put(fmt.Sprint("long", i), strings.Repeat("v", 4096)))
	}
	is(t, "long ones", does(t, x, m, cmd(l...)), "ok rev 2 then true time 50:"+strings.Repeat(" 0[]", 16))
	is(t, "to tell too much", does(t, x, m, cmd(del("a", "c"), get("long", "m", 0))), told(api.Reply{Err: api.ErrLong, Rev: 2, Time: 50}))
	isAs(t, x, m)
}

// TestP1202ATransactionWithoutRoom: ErrFull, where 4096 keys are there; one that makes room goes.
func TestP1202ATransactionWithoutRoom(t *testing.T) {
	x, m := of(t)
	for i := range 128 {
		var l []api.Op
		for j := range 32 {
			l = append(l, put(fmt.Sprintf("k%04d", 32*i+j), ""))
		}
		does(t, x, m, cmd(l...))
	}
	is(t, "one too many", does(t, x, m, cmd(put("k0000", "again"), put("more", ""))), told(api.Reply{Err: api.ErrFull, Rev: 128}))
	is(t, "one of them again", does(t, x, m, cmd(put("k0000", "again"))), "ok rev 129 then true time 0: 1[]")
	is(t, "one goes, another comes", does(t, x, m, cmd(del("k0001", ""), put("more", ""))), "ok rev 130 then true time 0: 1[] 0[]")
	is(t, "keys", len(keysOf(x.Store(), 0)), 4096)
}

func TestP1202Leases(t *testing.T) {
	x, _ := goes(t,
		step{clock(10), "ok rev 0 then false time 10:"},
		step{grant(7, 5), "ok rev 0 then false time 10:"},
		step{grant(3, 1), "ok rev 0 then false time 10:"},
		step{grant(7, 6), "is rev 0 then false time 10:"},
		step{grant(0, 5), "arg rev 0 then false time 10:"},
		step{grant(-1, 5), "arg rev 0 then false time 10:"},
		step{grant(1<<31, 5), "arg rev 0 then false time 10:"},
		step{grant(4, 0), "arg rev 0 then false time 10:"},
		step{grant(4, -1), "arg rev 0 then false time 10:"},
		step{grant(4, 1<<31), "arg rev 0 then false time 10:"},
		step{grant(7, 0), "arg rev 0 then false time 10:"},
		step{grant(1<<31-1, 1<<31-1), "ok rev 0 then false time 10:"},
		step{cmd(leased("a", 7), leased("b", 1<<31-1)), "ok rev 1 then true time 10: 0[] 0[]"},
		step{clock(12), "ok rev 1 then false time 12:"},
		step{renew(7), "ok rev 1 then false time 12:"},
		step{renew(4), "none rev 1 then false time 12:"},
		step{renew(0), "none rev 1 then false time 12:"},
		step{renew(-7), "none rev 1 then false time 12:"},
		step{renew(3), "ok rev 1 then false time 12:"}, // its time was over
	)
	is(t, "Leases", toldLeases(x.Leases()), "3:1-13 7:5-17 2147483647:2147483647-2147483657")
}

// TestP1202ThereAreNoMoreThan1024Leases also by commands.
func TestP1202ThereAreNoMoreThan1024Leases(t *testing.T) {
	x, m := of(t)
	for id := 1; id <= 1024; id++ {
		does(t, x, m, grant(id, id))
	}
	is(t, "one too many", does(t, x, m, grant(2000, 1)), "many rev 0 then false time 0:")
	is(t, "one that is there", does(t, x, m, grant(1024, 1)), "is rev 0 then false time 0:")
	is(t, "one goes", does(t, x, m, revoke(500)), "ok rev 0 then false time 0:")
	is(t, "another comes", does(t, x, m, grant(2000, 1)), "ok rev 0 then false time 0:")
	isAs(t, x, m)
	does(t, x, m, clock(600), expire())
	is(t, "how many are left", len(x.Leases()), 424)
	isAs(t, x, m)
}

func TestP1202TheClock(t *testing.T) {
	const last = 1 << 40
	x, m := goes(t,
		step{clock(0), "ok rev 0 then false time 0:"},
		step{clock(-1), "arg rev 0 then false time 0:"},
		step{clock(math.MinInt), "arg rev 0 then false time 0:"},
		step{clock(1), "ok rev 0 then false time 1:"},
		step{clock(0), "ok rev 0 then false time 1:"},
		step{clock(1), "ok rev 0 then false time 1:"},
		step{cmd(put("a", "")), "ok rev 1 then true time 1: 0[]"},
		step{clock(100), "ok rev 1 then false time 100:"},
		step{clock(99), "ok rev 1 then false time 100:"},
		step{clock(-1), "arg rev 1 then false time 100:"},
		step{clock(last + 1), "arg rev 1 then false time 100:"},
		step{clock(math.MaxInt), "arg rev 1 then false time 100:"},
		step{clock(last - 1), "ok rev 1 then false time 1099511627775:"},
		step{clock(last), "ok rev 1 then false time 1099511627776:"},
		step{clock(last + 1), "arg rev 1 then false time 1099511627776:"},
		step{clock(5), "ok rev 1 then false time 1099511627776:"},
		step{grant(1, 1<<31-1), "ok rev 1 then false time 1099511627776:"},
		step{grant(2, 1), "ok rev 1 then false time 1099511627776:"},
		step{renew(1), "ok rev 1 then false time 1099511627776:"},
		step{expire(), "ok rev 1 then false time 1099511627776:"},
	)
	is(t, "Leases at the last minute", toldLeases(x.Leases()), "1:2147483647-1101659111423 2:1-1099511627777")
	isAs(t, loaded(t, x), m)
}

func TestP1202Compaction(t *testing.T) {
	x, m := goes(t,
		step{compact(0), "arg rev 0 then false time 0:"},
		step{compact(-1), "arg rev 0 then false time 0:"},
		step{compact(1), "future rev 0 then false time 0:"},
		step{cmd(put("a", "1")), "ok rev 1 then true time 0: 0[]"},
		step{cmd(put("a", "2")), "ok rev 2 then true time 0: 1[]"},
		step{cmd(put("a", "3")), "ok rev 3 then true time 0: 1[]"},
		step{compact(4), "future rev 3 then false time 0:"},
		step{compact(math.MaxInt), "future rev 3 then false time 0:"},
		step{compact(2), "ok rev 3 then false time 0:"},
		step{compact(2), "past rev 3 then false time 0:"},
		step{compact(1), "past rev 3 then false time 0:"},
		step{compact(0), "arg rev 3 then false time 0:"},
		step{compact(math.MinInt), "arg rev 3 then false time 0:"},
		step{compact(3), "ok rev 3 then false time 0:"},
		step{cmd(put("a", "4")), "ok rev 4 then true time 0: 1[]"},
	)
	is(t, "Compacted", x.Store().Compacted(), 3)
	isAs(t, loaded(t, x), m)
}

func TestP1202NoSuchKind(t *testing.T) {
	x, m := of(t, clock(9), grant(1, 1), cmd(leased("a", 1)))
	before := x.Save()
	for _, kind := range []int{-1, 7, 8, 255, 256, 261, math.MinInt, math.MaxInt, 1 << 32} {
		c := full(kind)
		c.Client, c.Seq, c.Time, c.Lease = 0, 0, 100, 1
		is(t, fmt.Sprint("kind ", kind), does(t, x, m, c), "kind rev 1 then false time 9:")
	}
	is(t, "Save", slices.Equal(x.Save(), before), true)
	isAs(t, x, m)
}

// TestP1202WhatIsRefusedChangesNothing that can be told: of nobody's commands.
func TestP1202WhatIsRefusedChangesNothing(t *testing.T) {
	x, m := of(t, clock(9), grant(1, 1), grant(2, 5), cmd(leased("a", 1), leased("b", 2), put("c", "")), cmd(put("c", "2")), by(3, 3, cmd(get("a", "", 0))))
	before := x.Save()
	for _, c := range []api.Cmd{
		cmd(put("", "")), cmd(put("d", ""), leased("e", 3)), cmd(del("a", "d"), leased("e", 3)),
		grant(1, 5), grant(0, 5), renew(3), revoke(3), revoke(0), revoke(-1), revoke(math.MaxInt), clock(-1), clock(1<<40 + 1), compact(0), compact(3), {Kind: 7, Lease: 1},
		by(3, 3, cmd(put("d", ""))), by(3, 2, cmd(put("d", ""))), by(-1, 1, cmd(put("d", ""))), by(4, 0, cmd(put("d", ""))),
	} {
		r := does(t, x, m, c)
		if c.Client == 0 && strings.HasPrefix(r, "ok") {
			t.Errorf("%+v: %s", c, r)
		}
		if !slices.Equal(x.Save(), before) {
			t.Fatalf("%+v: changed something", c)
		}
	}
	isAs(t, x, m)
}

// TestP1202OtherFieldsDoNotCount: of each kind those alone that stand in its bytes.
func TestP1202OtherFieldsDoNotCount(t *testing.T) {
	made := []api.Cmd{clock(9), grant(1, 1), grant(2, 5), cmd(leased("a", 1), leased("b", 2), put("c", "")), cmd(put("c", "2"))}
	for i, c := range []api.Cmd{cmd(put("d", "")), grant(3, 4), renew(1), revoke(1), clock(10), expire(), compact(1)} {
		x, m := of(t, made...)
		more := c
		if i != 0 {
			more.Txn = full(0).Txn
		}
		if i < 1 || i > 3 {
			more.Lease = 2
		}
		if i != 1 {
			more.TTL = 7
		}
		if i != 4 {
			more.Time = 15
		}
		if i != 6 {
			more.Rev = 2
		}
		if got, want := told(x.Apply(more)), m.apply(c); got != want {
			t.Errorf("%+v: %s, not %s", more, got, want)
		}
		isAs(t, x, m)
	}
}

func TestP1203ANewMachine(t *testing.T) {
	for _, x := range []*machine.Machine{machine.New(), {}, loaded(t, machine.New()), loaded(t, &machine.Machine{})} {
		is(t, "Clock", x.Clock(), 0)
		is(t, "Leases", len(x.Leases()), 0)
		is(t, "Rev", x.Store().Rev(), 0)
		is(t, "Compacted", x.Store().Compacted(), 0)
		is(t, "keys", len(keysOf(x.Store(), 0)), 0)
		isAs(t, x, newModel())
	}
}

// TestP1ThoughItIsNotOfNew: each call on such a machine answers as on a new one, whichever is the first.
func TestP1ThoughItIsNotOfNew(t *testing.T) {
	for i, call := range []func(x *machine.Machine) any{
		func(x *machine.Machine) any { return x.Clock() },
		func(x *machine.Machine) any { return len(x.Leases()) },
		func(x *machine.Machine) any { return x.Store().Rev() },
		func(x *machine.Machine) any { return string(x.Save()) },
		func(x *machine.Machine) any { return told(x.Apply(by(3, 4, cmd(put("a", "1"))))) },
		func(x *machine.Machine) any { return told(x.Apply(api.Cmd{Kind: 7})) },
	} {
		x := &machine.Machine{}
		is(t, fmt.Sprint("call ", i), call(x), call(machine.New()))
		s := x.Store()
		x.Apply(cmd(put("b", "2")))
		is(t, "the store is the machine's", s.Rev() > 0 && s.Rev() == x.Store().Rev(), true)
	}
}

// TestP1203StoreShowsWhatIsDone: one that was asked for ahead of commands, too.
func TestP1203StoreShowsWhatIsDone(t *testing.T) {
	x := machine.New()
	s := x.Store()
	x.Apply(cmd(put("a", "1"), put("b", "2")))
	x.Apply(cmd(del("a", "")))
	is(t, "Rev", s.Rev(), 2)
	is(t, "keys", toldKeys(keysOf(s, 0)), "b=2/1.1.1.0")
	is(t, "keys at 1", toldKeys(keysOf(s, 1)), "a=1/1.1.1.0 b=2/1.1.1.0")
	x.Apply(compact(2))
	is(t, "Compacted", s.Compacted(), 2)
	is(t, "asked for again", x.Store().Compacted(), 2)
}

func TestP1203LeasesByTheirIds(t *testing.T) {
	x := machine.New()
	for _, id := range []int{500, 3, 1<<31 - 1, 70, 1} {
		x.Apply(grant(id, id))
		x.Apply(clock(id % 1000))
	}
	is(t, "Leases", toldLeases(x.Leases()), "1:1-648 3:3-503 70:70-717 500:500-500 2147483647:2147483647-2147484147")
	l := x.Leases()
	for i := range l[:cap(l)] {
		l[:cap(l)][i] = lease.Lease{}
	}
	is(t, "Leases, told again", toldLeases(x.Leases()), "1:1-648 3:3-503 70:70-717 500:500-500 2147483647:2147483647-2147484147")
	x.Apply(revoke(70))
	x.Apply(expire())
	is(t, "Leases behind that", toldLeases(x.Leases()), "1:1-648 2147483647:2147483647-2147484147")
}
