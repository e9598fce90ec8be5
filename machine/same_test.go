package machine_test

import (
	"fmt"
	"math/rand"
	"reflect"
	"slices"
	"testing"

	"horologe/api"
	"horologe/machine"
)

// full is a command that has something in each of its fields.
func full(kind int) api.Cmd {
	return api.Cmd{Client: 1, Seq: 2, Kind: kind, Lease: 3, TTL: 4, Time: 5, Rev: 6, Txn: api.Txn{
		If:   []api.If{{Key: "a", Target: 1, Sign: 2, N: 3, Text: "t"}, {Key: "b"}},
		Then: []api.Op{{Kind: 1, Key: "c", End: "d", Value: "e", Lease: 2, Limit: 3}, {Key: "f"}},
		Else: []api.Op{{Kind: 2, Key: "g", End: "h", Value: "i", Lease: 4, Limit: 5}, {Key: "j"}},
	}}
}

// changes are what can be done to the fields of a command, by the kinds in whose bytes they stand.
func changes() map[string][]func(c *api.Cmd) {
	l := map[string][]func(c *api.Cmd){
		"all": {func(c *api.Cmd) { c.Client++ }, func(c *api.Cmd) { c.Seq++ }, func(c *api.Cmd) { c.Client = -c.Client }, func(c *api.Cmd) { c.Seq += 1 << 32 }},
		"0":   {func(c *api.Cmd) { c.Txn.If = c.Txn.If[:1] }, func(c *api.Cmd) { c.Txn.If = nil }, func(c *api.Cmd) { slices.Reverse(c.Txn.If) }, func(c *api.Cmd) { c.Txn.If = append(c.Txn.If, api.If{}) }, func(c *api.Cmd) { c.Txn.Then, c.Txn.Else = c.Txn.Else, c.Txn.Then }},
		"1":   {func(c *api.Cmd) { c.TTL++ }, func(c *api.Cmd) { c.TTL = 0 }},
		"123": {func(c *api.Cmd) { c.Lease++ }, func(c *api.Cmd) { c.Lease = 0 }, func(c *api.Cmd) { c.Lease += 256 }, func(c *api.Cmd) { c.TTL, c.Lease = c.Lease, c.TTL }},
		"4":   {func(c *api.Cmd) { c.Time++ }, func(c *api.Cmd) { c.Time = -c.Time }},
		"6":   {func(c *api.Cmd) { c.Rev++ }, func(c *api.Cmd) { c.Rev = 0 }},
	}
	for _, f := range []func(c *api.If){func(c *api.If) { c.Key += "x" }, func(c *api.If) { c.Target++ }, func(c *api.If) { c.Target += 256 }, func(c *api.If) { c.Sign++ }, func(c *api.If) { c.Sign -= 256 }, func(c *api.If) { c.N++ }, func(c *api.If) { c.Text += "\x00" }} {
		for i := range 2 {
			l["0"] = append(l["0"], func(c *api.Cmd) { f(&c.Txn.If[i]) })
		}
	}
	for _, f := range []func(op *api.Op){func(op *api.Op) { op.Kind++ }, func(op *api.Op) { op.Kind += 256 }, func(op *api.Op) { op.Key = "" }, func(op *api.Op) { op.End += "x" }, func(op *api.Op) { op.Value += "x" }, func(op *api.Op) { op.Key, op.Value = op.Key+op.Value+"x", "" }, func(op *api.Op) { op.Lease++ }, func(op *api.Op) { op.Limit++ }} {
		for i := range 2 {
			l["0"] = append(l["0"], func(c *api.Cmd) { f(&c.Txn.Then[i]) }, func(c *api.Cmd) { f(&c.Txn.Else[i]) })
		}
	}
	for _, f := range []func(ops []api.Op) []api.Op{func(ops []api.Op) []api.Op { return nil }, func(ops []api.Op) []api.Op { return ops[:1] }, func(ops []api.Op) []api.Op { return ops[1:] }, func(ops []api.Op) []api.Op { return append(ops, api.Op{}) }} {
		l["0"] = append(l["0"], func(c *api.Cmd) { c.Txn.Then = f(c.Txn.Then) }, func(c *api.Cmd) { c.Txn.Else = f(c.Txn.Else) })
	}
	return l
}

// sameBoth asks both ways round.
func sameBoth(t *testing.T, what string, a, b api.Cmd, want bool) {
	t.Helper()
	if machine.SameCmd(a, b) != want || machine.SameCmd(b, a) != want {
		t.Errorf("%s: %v, %v, not %v", what, machine.SameCmd(a, b), machine.SameCmd(b, a), want)
	}
}

// TestP1201SameCmdFieldByField: fields that stand in a kind's bytes count, others do not.
func TestP1201SameCmdFieldByField(t *testing.T) {
	for kind := -1; kind <= 8; kind++ {
		sameBoth(t, "alike", full(kind), full(kind), true)
		for kinds, l := range changes() {
			counts := kinds == "all" || slices.Contains([]byte(kinds), byte('0'+kind)) && kind >= 0 && kind <= 6
			for i, f := range l {
				c := full(kind)
				f(&c)
				sameBoth(t, fmt.Sprint("kind ", kind, ", change ", i, " of ", kinds), c, full(kind), !counts)
			}
		}
	}
}

func TestP1201SameCmdOfTwoKinds(t *testing.T) {
	for a := -2; a <= 9; a++ {
		for b := -2; b <= 9; b++ {
			sameBoth(t, fmt.Sprint("kinds ", a, ", ", b), full(a), full(b), a == b)
			sameBoth(t, fmt.Sprint("kinds ", a, ", ", b, ", nothing else"), api.Cmd{Kind: a}, api.Cmd{Kind: b}, a == b)
		}
	}
	sameBoth(t, "kinds of one byte", full(0), full(256), false)
	sameBoth(t, "a renewal, a revocation of one lease", renew(3), revoke(3), false)
}

func TestP1201SameCmdOfEmptyLists(t *testing.T) {
	empty := api.Cmd{Txn: api.Txn{If: []api.If{}, Then: make([]api.Op, 0, 5), Else: []api.Op{}}}
	sameBoth(t, "no lists, empty ones", api.Cmd{}, empty, true)
	sameBoth(t, "no list, one of a zero", api.Cmd{}, lists(1, 0, 0), false)
	sameBoth(t, "no list, one of a zero in Then", api.Cmd{}, lists(0, 1, 0), false)
	sameBoth(t, "no list, one of a zero in Else", api.Cmd{}, lists(0, 0, 1), false)
	sameBoth(t, "in Then, in Else", lists(0, 0, 1), lists(0, 1, 0), false)
	sameBoth(t, "lists that have no bytes", lists(300, 999, 256), lists(300, 999, 256), true)
	sameBoth(t, "lists that have no bytes, and differ", lists(300, 999, 256), lists(300, 998, 256), false)
}

// TestP1201SameCmdIsSameBytes: of commands that have bytes.
func TestP1201SameCmdIsSameBytes(t *testing.T) {
	r := rand.New(rand.NewSource(12011))
	for range 3000 {
		seed := r.Int63()
		a := drawnCmd(rand.New(rand.NewSource(seed)))
		b := drawnCmd(rand.New(rand.NewSource(seed)))
		sameBoth(t, "drawn alike", a, b, true)
		x, _ := machine.EncodeCmd(a)
		if len(x) < 200 {
			x[r.Intn(len(x))] = byte(r.Intn(3))
		}
		if c, err := machine.ParseCmd(x); err == api.OK {
			y, _ := machine.EncodeCmd(a)
			sameBoth(t, fmt.Sprintf("%x, %x", x, y), a, c, slices.Equal(x, y))
		}
	}
}

// wide is a reply that has something in each of its fields.
func wide() api.Reply {
	return api.Reply{Err: 1, Rev: 2, Then: true, Time: 3, Results: []api.Result{
		{N: 4, KVs: []api.KV{{Key: "a", Value: "b", Create: 5, Mod: 6, Version: 7, Lease: 8}, {Key: "c"}}},
		{N: 9},
		{KVs: []api.KV{{Key: "d", Value: "e", Create: 1, Mod: 2, Version: 3, Lease: 4}}},
	}}
}

func TestP1201SameReplyFieldByField(t *testing.T) {
	l := []func(r *api.Reply){
		func(r *api.Reply) { r.Err++ }, func(r *api.Reply) { r.Err = 0 }, func(r *api.Reply) { r.Rev++ }, func(r *api.Reply) { r.Then = false }, func(r *api.Reply) { r.Time++ }, func(r *api.Reply) { r.Rev, r.Time = r.Time, r.Rev },
		func(r *api.Reply) { r.Results = nil }, func(r *api.Reply) { r.Results = r.Results[:2] }, func(r *api.Reply) { r.Results = r.Results[1:] }, func(r *api.Reply) { r.Results = append(r.Results, api.Result{}) }, func(r *api.Reply) { slices.Reverse(r.Results) },
		func(r *api.Reply) { r.Results[1].KVs = make([]api.KV, 1) }, func(r *api.Reply) { slices.Reverse(r.Results[0].KVs) },
	}
	for i := range 3 {
		l = append(l, func(r *api.Reply) { r.Results[i].N++ }, func(r *api.Reply) { r.Results[i].KVs = append(r.Results[i].KVs, api.KV{}) })
	}
	for _, at := range [][2]int{{0, 0}, {0, 1}, {2, 0}} {
		for _, f := range []func(kv *api.KV){func(kv *api.KV) { kv.Key += "x" }, func(kv *api.KV) { kv.Value += "x" }, func(kv *api.KV) { kv.Create++ }, func(kv *api.KV) { kv.Mod++ }, func(kv *api.KV) { kv.Version++ }, func(kv *api.KV) { kv.Lease++ }} {
			l = append(l, func(r *api.Reply) { f(&r.Results[at[0]].KVs[at[1]]) })
		}
		l = append(l, func(r *api.Reply) {
			r.Results[at[0]].KVs = slices.Delete(r.Results[at[0]].KVs, at[1], at[1]+1)
		})
	}
	for i, f := range l {
		r := wide()
		f(&r)
		if machine.SameReply(r, wide()) || machine.SameReply(wide(), r) || !machine.SameReply(r, r) {
			t.Errorf("change %d: %+v", i, r)
		}
	}
	if !machine.SameReply(wide(), wide()) || !machine.SameReply(api.Reply{}, api.Reply{}) || machine.SameReply(wide(), api.Reply{}) {
		t.Error("alike, or not at all")
	}
}

func TestP1201SameReplyOfEmptyLists(t *testing.T) {
	for _, x := range []struct{ a, b api.Reply }{
		{api.Reply{}, api.Reply{Results: []api.Result{}}},
		{api.Reply{Results: make([]api.Result, 0, 3)}, api.Reply{Results: []api.Result{}}},
		{api.Reply{Results: make([]api.Result, 2)}, api.Reply{Results: []api.Result{{KVs: []api.KV{}}, {KVs: make([]api.KV, 0, 2)}}}},
	} {
		if !machine.SameReply(x.a, x.b) || !machine.SameReply(x.b, x.a) {
			t.Errorf("%+v, %+v", x.a, x.b)
		}
	}
	if machine.SameReply(api.Reply{}, api.Reply{Results: make([]api.Result, 1)}) {
		t.Error("no result, and one of which nothing is set")
	}
}

// TestP2SameLeavesWhatIsHandedIn, its spare room too.
func TestP2SameLeavesWhatIsHandedIn(t *testing.T) {
	for kind := range 8 {
		c, d := full(kind), full(kind)
		c.Txn.If, c.Txn.Then = c.Txn.If[:1], c.Txn.Then[:1]
		machine.SameCmd(c, d)
		machine.SameCmd(d, c)
		c.Txn.If, c.Txn.Then = c.Txn.If[:2], c.Txn.Then[:2]
		if !reflect.DeepEqual(c, full(kind)) || !reflect.DeepEqual(d, full(kind)) {
			t.Errorf("kind %d: changed", kind)
		}
	}
	r := wide()
	machine.SameReply(r, wide())
	if !reflect.DeepEqual(r, wide()) {
		t.Error("a reply is changed")
	}
}
