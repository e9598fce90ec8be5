package machine_test

import (
	"bytes"
	"fmt"
	"math"
	"math/rand"
	"strings"
	"testing"

	"horologe/api"
	"horologe/machine"
)

// machines tells machines of many kinds, with their models, by names.
func machines(t *testing.T) map[string]func() (*machine.Machine, *model) {
	made := map[string][]api.Cmd{
		"new":                  nil,
		"a clock":              {clock(5)},
		"the last minute":      {clock(1 << 40)},
		"a lease":              {grant(7, 5)},
		"a lease of late":      {clock(1 << 40), grant(1<<31-1, 1<<31-1)},
		"leases, renewed":      {grant(7, 5), grant(2, 100), clock(3), renew(7), grant(9, 1), clock(8)},
		"a lease that is over": {grant(7, 5), cmd(leased("a", 7)), clock(100)},
		"leases that went":     {grant(7, 5), grant(8, 9), cmd(leased("a", 7), leased("b", 8)), revoke(7), clock(10), expire()},
		"a key":                {cmd(put("a", "1"))},
		"a key that went":      {cmd(put("a", "1")), cmd(del("a", ""))},
		"past revisions":       {cmd(put("a", "1"), put("b", "1")), cmd(put("a", "2")), cmd(del("b", ""), put("c", "")), cmd(put("b", "3"))},
		"compacted":            {cmd(put("a", "1"), put("b", "1")), cmd(put("a", "2")), cmd(del("b", ""), put("c", "")), cmd(put("b", "3")), compact(3)},
		"compacted to the end": {cmd(put("a", "1"), put("b", "1")), cmd(put("a", "2")), compact(2)},
		"a client":             {by(3, 5, api.Cmd{})},
		"great ones":           {by(math.MaxInt, math.MaxInt, cmd(put(strings.Repeat("\xff", 100), strings.Repeat("\x00", 300)), get("\x00", beyond, 0)))},
		"a client's refusal":   {clock(4), by(3, 5, cmd(put("", "")))},
		"a client's no kind":   {by(3, 5, api.Cmd{Kind: -9})},
		"clients of all kinds": {clock(4), by(9, 1, grant(1, 6)), by(8, 1, grant(1, 6)), by(7, 1, renew(1)), by(6, 1, clock(5)), by(5, 1, expire()), by(4, 1, cmd(leased("a", 1), put("b", "2"), get("a", "c", 1), del("b", ""))), by(3, 1, compact(1)), by(2, 1, revoke(1)), by(1, 1, compact(9)), by(10, 1, cmd(get("a", "", 0)))},
		"results":              {cmd(put("a", "1"), put("b", "2")), by(1, 1, cmd(get("a", "z", 0), get("b", "", 0), get("c", "", 0), get("a", "z", 1))), by(2, 1, api.Cmd{Txn: api.Txn{If: []api.If{{Key: "a", N: 9}}, Else: []api.Op{get("a", "", 0)}}})},
	}
	whole := []api.Cmd{clock(20)}
	for i := 1; i <= 12; i++ {
		whole = append(whole, by(i, i, grant(10*i, i)), cmd(leased(fmt.Sprint("k", i), 10*i), put("n", fmt.Sprint(i))), by(i, 20, cmd(get("a", "z", i))), by(20+i, 3, renew(i)), clock(20+i/3))
	}
	made["all of it"] = append(whole, compact(5), by(40, 1, expire()))
	all := map[string]func() (*machine.Machine, *model){}
	for name, l := range made {
		all[name] = func() (*machine.Machine, *model) { return of(t, l...) }
	}
	return all
}

func TestP1203ThereAndBack(t *testing.T) {
	for name, make := range machines(t) {
		t.Run(name, func(t *testing.T) {
			x, m := make()
			b := x.Save()
			y := loaded(t, x)
			isAs(t, y, m)
			isAs(t, loaded(t, y), m)
			isAs(t, x, m)
			is(t, "Save tells the same again", bytes.Equal(x.Save(), b), true)
		})
	}
}

// TestP1204ItGoesOn applies commands of all kinds to what was loaded: it answers as the machine that was not.
func TestP1204ItGoesOn(t *testing.T) {
	for name, make := range machines(t) {
		t.Run(name, func(t *testing.T) {
			x, m := make()
			y := loaded(t, x)
			for i, c := range []api.Cmd{cmd(put("a", "next"), get("a", "z", 0)), grant(7, 3), cmd(leased("new", 7), leased("b", 7)), by(3, 6, cmd(get("a", "z", 0))), renew(10), clock(30), expire(), by(3, 6, clock(99)), by(3, 5, clock(99)), revoke(120), compact(2), cmd(del("a", "z")), compact(y.Store().Rev()), by(70, 1, expire())} {
				got, want := told(y.Apply(c)), told(x.Apply(c))
				is(t, fmt.Sprint("command ", i), got, want)
				is(t, fmt.Sprint("command ", i, ", the model"), m.apply(c), want)
			}
			isAs(t, y, m)
			isAs(t, x, m)
			is(t, "Save", bytes.Equal(x.Save(), y.Save()), true)
		})
	}
}

// TestP1203LoadedIsApart: what is done to one of them is not seen in the other.
func TestP1203LoadedIsApart(t *testing.T) {
	for name, make := range machines(t) {
		x, m := make()
		y := loaded(t, x)
		before := x.Save()
		for _, c := range []api.Cmd{cmd(put("a", "other"), put("b", "other")), grant(1, 1), renew(7), revoke(10), by(3, 99, clock(1<<40)), expire(), compact(1)} {
			y.Apply(c)
		}
		is(t, name, bytes.Equal(x.Save(), before), true)
		isAs(t, x, m)
	}
}

func isBad(t *testing.T, what string, b []byte) {
	t.Helper()
	if x, err := machine.Load(b); x != nil || err != api.ErrBad {
		t.Fatalf("%s: %v, %v", what, x != nil, err)
	}
}

func TestP1203NoBytes(t *testing.T) {
	isBad(t, "nil", nil)
	for n := range 60 {
		isBad(t, "zeros", make([]byte, n))
		isBad(t, "ones", bytes.Repeat([]byte{255}, n))
	}
	isBad(t, "a store's", machine.New().Store().Save())
}

func TestP1203BytesCutAtEveryPlace(t *testing.T) {
	for name, make := range machines(t) {
		x, _ := make()
		b := x.Save()
		for n := range b {
			isBad(t, fmt.Sprint(name, ", the front of ", n), b[:n])
			isBad(t, fmt.Sprint(name, ", without the first ", n+1), b[n+1:])
		}
	}
}

func TestP1203BytesWithMoreBehind(t *testing.T) {
	for name, make := range machines(t) {
		x, _ := make()
		b := x.Save()
		for n := range 256 {
			isBad(t, name, append(bytes.Clone(b), byte(n)))
		}
		isBad(t, name+", twice", append(bytes.Clone(b), b...))
		isBad(t, name+", and another one", append(bytes.Clone(b), machine.New().Save()...))
	}
}

func TestP1203BytesWithOneTurned(t *testing.T) {
	for name, make := range machines(t) {
		x, _ := make()
		b := x.Save()
		for i := range b {
			for n := 1; n < 256; n += 1 + len(b)/100 {
				b[i] ^= byte(n)
				isBad(t, fmt.Sprint(name, ", byte ", i, " turned by ", n), b)
				b[i] ^= byte(n)
			}
		}
		if _, err := machine.Load(b); err != api.OK {
			t.Errorf("%s: %v", name, err)
		}
	}
}

// TestP1203BytesMixedUp: what is taken is what Save tells.
func TestP1203BytesMixedUp(t *testing.T) {
	r := rand.New(rand.NewSource(1203))
	x, _ := machines(t)["all of it"]()
	b := x.Save()
	for range 5000 {
		c := bytes.Clone(b)
		for range 1 + r.Intn(3) {
			i, j := r.Intn(len(c)), r.Intn(len(c))
			switch r.Intn(3) {
			case 0:
				c[i], c[j] = c[j], c[i]
			case 1:
				c[i] = byte(r.Intn(256))
			case 2:
				c = append(c[:min(i, j)], c[max(i, j):]...)
				c = append(c, 0)
			}
		}
		if y, err := machine.Load(c); err == api.OK && !bytes.Equal(y.Save(), c) {
			t.Fatalf("%x was taken, but Save tells %x", c, y.Save())
		}
	}
}

// TestP1203TheSameMachineTheSameBytes, however it came to be so.
func TestP1203TheSameMachineTheSameBytes(t *testing.T) {
	x, _ := of(t, clock(5), grant(2, 3), grant(1, 4), cmd(put("a", "1")), by(7, 1, expire()), by(3, 1, expire()))
	y, _ := of(t, grant(9, 9), clock(5), grant(1, 4), revoke(9), grant(2, 3), clock(4), cmd(put("a", "1")), by(3, 1, expire()), by(7, 1, expire()), cmd(get("a", "", 0)))
	is(t, "Save", bytes.Equal(x.Save(), y.Save()), true)
}

// TestP1203AMachineThatIsFull: with all keys, leases, clients and replies that there can be.
func TestP1203AMachineThatIsFull(t *testing.T) {
	x := machine.New()
	for id := 1; id <= 1024; id++ {
		x.Apply(grant(id, id))
	}
	for i := range 128 {
		var l []api.Op
		for j := range 32 {
			l = append(l, api.Op{Key: fmt.Sprintf("k%04d", 32*i+j), Value: strings.Repeat("v", 4096), Lease: 1 + i})
		}
		x.Apply(cmd(l...))
	}
	for client := 1; client <= 64; client++ {
		l := make([]api.Op, 32)
		for i := range l {
			l[i] = get("k0000", "k0001", 0)
			if i > 14 {
				l[i] = get("none", "", 0)
			}
		}
		l[31] = put("k0000", strings.Repeat("w", 4000))
		if r := x.Apply(by(client, 1, cmd(l...))); r.Err != api.OK || len(r.Results[14].KVs) != 1 {
			t.Fatalf("client %d: %v", client, r.Err)
		}
	}
	b := x.Save()
	y := loaded(t, x)
	for client := 1; client <= 64; client++ {
		if !machine.SameReply(x.Apply(by(client, 1, expire())), y.Apply(by(client, 1, expire()))) {
			t.Fatalf("client %d is answered otherwise", client)
		}
	}
	is(t, "keys", toldKeys(keysOf(y.Store(), 0)) == toldKeys(keysOf(x.Store(), 0)), true)
	is(t, "Leases", toldLeases(y.Leases()), toldLeases(x.Leases()))
	isBad(t, "cut", b[:len(b)-1])
	isBad(t, "cut in the midst", b[:len(b)/2])
}

// TestP2SaveAndLoadKeepNothing of the bytes that were told and handed in.
func TestP2SaveAndLoadKeepNothing(t *testing.T) {
	for name, make := range machines(t) {
		x, m := make()
		b := x.Save()
		was := bytes.Clone(b)
		spare := b[:cap(b)]
		y, err := machine.Load(b)
		is(t, name+", Load", err, api.OK)
		is(t, name+", what was handed in", bytes.Equal(b, was), true)
		clear(spare)
		isAs(t, y, m)
		isAs(t, x, m)
		is(t, name+", Save", bytes.Equal(x.Save(), was), true)
		is(t, name+", Save of the other", bytes.Equal(y.Save(), was), true)
	}
}
