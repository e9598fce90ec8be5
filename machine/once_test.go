package machine_test

import (
	"fmt"
	"math"
	"math/rand"
	"slices"
	"testing"

	"horologe/api"
	"horologe/machine"
)

func refused(err api.Errno) string { return told(api.Reply{Err: err}) }

// TestP1202ACallAnew is answered as it was, and not done, whatever it asks for now.
func TestP1202ACallAnew(t *testing.T) {
	x, m := of(t, grant(1, 5), cmd(put("a", "1"), leased("b", 1)))
	calls := []struct {
		cmd  api.Cmd
		want string
	}{
		{cmd(put("a", "2"), get("a", "z", 0)), "ok rev 2 then true time 0: 1[] 2[a=2/1.2.2.0 b=v/1.1.1.1]"},
		{cmd(put("", "")), "arg rev 2 then false time 0:"},
		{api.Cmd{Txn: api.Txn{If: []api.If{{Key: "a", Target: api.TValue, Text: "1"}}, Else: []api.Op{del("a", "")}}}, "ok rev 3 then false time 0: 1[]"},
		{grant(2, 5), "ok rev 3 then false time 0:"},
		{grant(2, 5), "is rev 3 then false time 0:"},
		{clock(4), "ok rev 3 then false time 4:"},
		{clock(-4), "arg rev 3 then false time 4:"},
		{renew(2), "ok rev 3 then false time 4:"},
		{renew(3), "none rev 3 then false time 4:"},
		{expire(), "ok rev 3 then false time 4:"},
		{revoke(1), "ok rev 4 then false time 4:"},
		{revoke(1), "none rev 4 then false time 4:"},
		{compact(2), "ok rev 4 then false time 4:"},
		{compact(2), "past rev 4 then false time 4:"},
		{api.Cmd{Kind: 99}, "kind rev 4 then false time 4:"},
		{clock(9), "ok rev 4 then false time 9:"},
		{expire(), "ok rev 4 then false time 9:"},
	}
	for i, c := range calls {
		seq := 10 + 3*i
		is(t, fmt.Sprint("call ", i), does(t, x, m, by(3, seq, c.cmd)), c.want)
		before := x.Save()
		for _, other := range []api.Cmd{c.cmd, cmd(put("never", "")), clock(1000), revoke(2), grant(9, 9), compact(1), {Kind: -5}} {
			is(t, fmt.Sprint("call ", i, ", anew"), told(x.Apply(by(3, seq, other))), c.want)
			is(t, fmt.Sprint("call ", i, ", a lesser number"), told(x.Apply(by(3, seq-1, other))), refused(api.ErrStale))
			is(t, fmt.Sprint("call ", i, ", 1"), told(x.Apply(by(3, 1, other))), refused(api.ErrStale))
		}
		is(t, fmt.Sprint("call ", i, " changes nothing anew"), slices.Equal(x.Save(), before), true)
		isAs(t, x, m)
	}
}

// TestP1202AnAnswerStays as it was, however much is done between.
func TestP1202AnAnswerStays(t *testing.T) {
	x, m := of(t, cmd(put("a", "1"), put("b", "2")))
	first := does(t, x, m, by(5, 1, cmd(get("a", "z", 0), put("c", "3"))))
	is(t, "the first call", first, "ok rev 2 then true time 0: 2[a=1/1.1.1.0 b=2/1.1.1.0] 0[]")
	does(t, x, m, cmd(del("a", "z")), clock(44), by(6, 1, cmd(put("a", "new"))), cmd(put("b", "new")), compact(5))
	is(t, "the first call, anew", does(t, x, m, by(5, 1, cmd(get("a", "z", 0)))), first)
	is(t, "when it was saved and loaded", told(loaded(t, x).Apply(by(5, 1, expire()))), first)
	does(t, x, m, by(5, 2, cmd(get("a", "z", 0))))
	is(t, "behind a greater one", does(t, x, m, by(5, 1, cmd(get("a", "z", 0)))), refused(api.ErrStale))
	isAs(t, x, m)
}

// TestP1202ClientNobody: its commands are done each time, whatever their number is.
func TestP1202ClientNobody(t *testing.T) {
	x, m := of(t)
	for i, seq := range []int{0, 1, 1, 5, 5, 2, -1, math.MinInt, math.MaxInt, math.MaxInt, 0} {
		is(t, fmt.Sprint("its number ", seq), does(t, x, m, by(0, seq, cmd(put("a", "")))), fmt.Sprintf("ok rev %d then true time 0: %d[]", i+1, min(i, 1)))
	}
	isAs(t, x, m)
}

func TestP1202FolksOwnErrors(t *testing.T) {
	x, m := of(t, clock(30), cmd(put("a", "1")))
	for _, c := range [][2]int{{-1, 1}, {-1, 0}, {math.MinInt, 1}, {math.MinInt, math.MinInt}, {1, 0}, {1, -1}, {1, math.MinInt}, {math.MaxInt, 0}} {
		for _, kind := range []int{-1, 0, 1, 2, 3, 4, 5, 6, 7} {
			is(t, fmt.Sprint(c, kind), does(t, x, m, by(c[0], c[1], full(kind))), refused(api.ErrArg))
		}
	}
	for client := 1; client <= 64; client++ {
		is(t, fmt.Sprint("client ", client), does(t, x, m, by(client, client, cmd(put("a", "")))), fmt.Sprintf("ok rev %d then true time 30: 1[]", client+1))
	}
	is(t, "one too many", does(t, x, m, by(65, 1, cmd(put("a", "")))), refused(api.ErrMany))
	is(t, "one too many, without a number", does(t, x, m, by(65, 0, cmd(put("a", "")))), refused(api.ErrArg))
	is(t, "nobody", does(t, x, m, cmd(put("a", ""))), "ok rev 66 then true time 30: 1[]")
	is(t, "stale", does(t, x, m, by(64, 63, cmd(put("a", "")))), refused(api.ErrStale))
	is(t, "anew", does(t, x, m, by(64, 64, cmd(put("b", "")))), "ok rev 65 then true time 30: 1[]")
	is(t, "greater", does(t, x, m, by(64, math.MaxInt, cmd(put("a", "")))), "ok rev 67 then true time 30: 1[]")
	is(t, "not the next one", does(t, x, m, by(1, 100, cmd(put("a", "")))), "ok rev 68 then true time 30: 1[]")
	isAs(t, x, m)
	isAs(t, loaded(t, x), m)
}

// TestT1DoneOnce: clients make each of their calls again and again, till it is answered, and later too; calls are lost, doubled and mixed up. Each is done once at most.
func TestT1DoneOnce(t *testing.T) {
	for seed := range int64(10) {
		r := rand.New(rand.NewSource(120200 + seed))
		x, m := of(t)
		var way []api.Cmd
		next := [5]int{1, 1, 1, 1, 1}
		for range 1000 {
			client := 1 + r.Intn(5)
			key := fmt.Sprintf("%d/%d", client, next[client-1])
			for range 1 + r.Intn(2) {
				way = append(way, by(client, next[client-1], cmd(put(key, ""), put(fmt.Sprint("last/", client), key))))
			}
			i := r.Intn(len(way))
			c := way[i]
			if r.Intn(3) > 0 {
				way = slices.Delete(way, i, i+1)
			}
			does(t, x, m, c)
			next[c.Client-1] = max(next[c.Client-1], c.Seq+1)
			if r.Intn(50) == 0 {
				x = loaded(t, x)
			}
		}
		isAs(t, x, m)
		done := keysOf(x.Store(), 0)
		for _, kv := range done {
			if len(kv.Key) < 5 || kv.Key[:5] != "last/" {
				is(t, kv.Key+" was put", kv.Version, 1)
			}
		}
		if len(done) < 100 {
			t.Errorf("seed %d: %d calls were done: too few to be of use here", seed, len(done))
		}
	}
}

// TestExampleTheSameCallTwice: one revision, one reply.
func TestExampleTheSameCallTwice(t *testing.T) {
	x := machine.New()
	c := by(1, 1, cmd(put("a", "1")))
	a, b := x.Apply(c), x.Apply(c)
	is(t, "one reply", machine.SameReply(a, b), true)
	is(t, "the reply", told(a), "ok rev 1 then true time 0: 0[]")
	is(t, "one revision", x.Store().Rev(), 1)
}
