package machine_test

import (
	"fmt"
	"slices"
	"strings"
	"testing"

	"horologe/api"
	"horologe/machine"
)

// three makes a machine with the leases 1 (till 10), 2 (till 20), 3 (till 10), keys of these, mixed up, and keys of none.
func three(t *testing.T) (*machine.Machine, *model) {
	t.Helper()
	return of(t, grant(1, 10), grant(2, 20), grant(3, 10),
		cmd(leased("d", 1), leased("b", 2), put("a", "")),
		cmd(leased("e", 3), leased("c", 1)),
		cmd(leased("\xff\xff", 1), leased("\x00", 3), put("z", "")),
		cmd(leased("f", 2)),
	)
}

// last tells the changes of a machine's last revision.
func last(x *machine.Machine) string {
	l, _ := x.Store().Since(x.Store().Rev())
	return toldEvents(l)
}

func keyNames(x *machine.Machine) string {
	var l []string
	for _, kv := range keysOf(x.Store(), 0) {
		l = append(l, fmt.Sprintf("%q", kv.Key))
	}
	return strings.Join(l, " ")
}

func TestP1202RevokeDeletesKeys(t *testing.T) {
	x, m := three(t)
	is(t, "one with several keys", does(t, x, m, revoke(1)), "ok rev 5 then false time 0:")
	is(t, "in one revision, rising", last(x), "5-c 5-d 5-\xff\xff")
	is(t, "what is there", keyNames(x), `"\x00" "a" "b" "e" "f" "z"`)
	is(t, "Leases", toldLeases(x.Leases()), "2:20-20 3:10-10")
	isAs(t, x, m)
	is(t, "again", does(t, x, m, revoke(1)), "none rev 5 then false time 0:")
	does(t, x, m, cmd(del("\x00", "")))
	is(t, "one with one key", does(t, x, m, revoke(3)), "ok rev 7 then false time 0:")
	is(t, "in one revision", last(x), "7-e")
	does(t, x, m, cmd(del("b", ""), del("f", "")))
	is(t, "one without keys", does(t, x, m, revoke(2)), "ok rev 8 then false time 0:")
	is(t, "what is left", keyNames(x), `"a" "z"`)
	is(t, "Leases that are left", toldLeases(x.Leases()), "")
	isAs(t, x, m)
	is(t, "none is left", does(t, x, m, expire(), clock(1000), expire()), "ok rev 8 then false time 1000:")
	isAs(t, x, m)
}

// TestP1202RevokeOfNoLease: keys without one stay.
func TestP1202RevokeOfNoLease(t *testing.T) {
	x, m := three(t)
	for _, id := range []int{0, -1, 4, 1 << 31, 1 << 32} {
		is(t, fmt.Sprint("lease ", id), does(t, x, m, revoke(id)), "none rev 4 then false time 0:")
		isAs(t, x, m)
	}
}

func TestP1202ExpireDeletesKeys(t *testing.T) {
	x, m := three(t)
	is(t, "none is over", does(t, x, m, expire()), "ok rev 4 then false time 0:")
	is(t, "none is over yet", does(t, x, m, clock(9), expire()), "ok rev 4 then false time 9:")
	isAs(t, x, m)
	is(t, "two are, at their minute", does(t, x, m, clock(10), expire()), "ok rev 5 then false time 10:")
	is(t, "in one revision, rising, whose ever they are", last(x), "5-\x00 5-c 5-d 5-e 5-\xff\xff")
	is(t, "Leases", toldLeases(x.Leases()), "2:20-20")
	isAs(t, x, m)
	is(t, "again", does(t, x, m, expire()), "ok rev 5 then false time 10:")
	is(t, "another one is", does(t, x, m, clock(999), expire()), "ok rev 6 then false time 999:")
	is(t, "its keys", last(x), "6-b 6-f")
	is(t, "what is left", keyNames(x), `"a" "z"`)
	isAs(t, x, m)
	isAs(t, loaded(t, x), m)
}

// TestP1202ExpireOfLeasesWithoutKeys: they go, and no revision is made.
func TestP1202ExpireOfLeasesWithoutKeys(t *testing.T) {
	x, m := of(t, grant(1, 1), grant(2, 2), grant(3, 3), cmd(put("a", ""), leased("b", 3)), clock(2))
	is(t, "two without keys", does(t, x, m, expire()), "ok rev 1 then false time 2:")
	is(t, "Leases", toldLeases(x.Leases()), "3:3-3")
	is(t, "put with one that is gone", does(t, x, m, cmd(leased("c", 1))), "lease rev 1 then false time 2:")
	isAs(t, x, m)
}

// TestP1202RenewedLeasesAreNotOver: nor do their keys go.
func TestP1202RenewedLeasesAreNotOver(t *testing.T) {
	x, m := three(t)
	does(t, x, m, clock(10), renew(3), expire())
	is(t, "its keys stay", last(x), "5-c 5-d 5-\xff\xff")
	is(t, "Leases", toldLeases(x.Leases()), "2:20-20 3:10-20")
	does(t, x, m, clock(19), renew(2), expire(), clock(20), expire())
	is(t, "its keys go", last(x), "6-\x00 6-e")
	isAs(t, x, m)
}

// TestP1202KeysThatWerePutAgain have the lease that they were put with last.
func TestP1202KeysThatWerePutAgain(t *testing.T) {
	for _, end := range [][]api.Cmd{{revoke(1)}, {clock(10), expire()}} {
		x, m := of(t, grant(1, 10), grant(2, 20), cmd(leased("a", 1), leased("b", 1), leased("c", 2), put("d", ""), leased("e", 1)),
			cmd(leased("a", 2), put("b", "of none"), leased("c", 1), leased("d", 1)), cmd(del("e", "")), cmd(put("e", "anew")))
		does(t, x, m, end...)
		is(t, "what goes", last(x), "5-c 5-d")
		is(t, "what stays", keyNames(x), `"a" "b" "e"`)
		isAs(t, x, m)
		does(t, x, m, revoke(2))
		is(t, "what goes with the other one", last(x), "6-a")
		isAs(t, x, m)
	}
}

// TestP1202ALeaseOfAnIdAgain has none of the keys of the elder one.
func TestP1202ALeaseOfAnIdAgain(t *testing.T) {
	x, m := of(t, grant(1, 10), cmd(leased("a", 1), put("b", "")), revoke(1), grant(1, 99), cmd(leased("c", 1)), cmd(put("a", "of none")))
	does(t, x, m, clock(50), expire())
	is(t, "what stays", keyNames(x), `"a" "b" "c"`)
	does(t, x, m, revoke(1))
	is(t, "what goes", last(x), "5-c")
	isAs(t, x, m)
}

// TestP1202ManyKeysOfManyLeases: all that there can be, in one revision.
func TestP1202ManyKeysOfManyLeases(t *testing.T) {
	x, m := of(t)
	for id := 1; id <= 1024; id++ {
		does(t, x, m, grant(id*1000, 1+id%2))
	}
	for i := range 128 {
		var l []api.Op
		for j := range 32 {
			n := (32*i + j) * 1777 % 4096
			l = append(l, leased(fmt.Sprintf("k%04d", n), 1000*(1+n%1024)))
		}
		does(t, x, m, cmd(l...))
	}
	is(t, "half of them", does(t, x, m, clock(1), expire()), "ok rev 129 then false time 1:")
	is(t, "keys", len(keysOf(x.Store(), 0)), 2048)
	is(t, "the others", does(t, x, m, clock(2), expire()), "ok rev 130 then false time 2:")
	is(t, "no keys", len(keysOf(x.Store(), 0)), 0)
	l, _ := x.Store().Since(130)
	rises := slices.IsSortedFunc(l, func(a, b api.Event) int { return strings.Compare(a.KV.Key, b.KV.Key) })
	is(t, "2048 of them, rising", len(l) == 2048 && rises, true)
	is(t, "no leases", len(x.Leases()), 0)
	if events, _ := x.Store().Since(1); !slices.Equal(events, m.events) {
		t.Error("other changes than the model's")
	}
}
