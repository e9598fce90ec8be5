package folk_test

import (
	"fmt"
	"math"
	"math/rand"
	"strings"
	"testing"

	"horologe/api"
	"horologe/folk"
)

// TestP1101NoteOfNobody: nothing of client 0 is kept, and it takes no room.
func TestP1101NoteOfNobody(t *testing.T) {
	f, m := of(t, [2]int{3, 5})
	for _, seq := range edges {
		f.Note(0, seq, reply("of nobody"))
		isAs(t, f, m)
	}
	for client := 101; client <= 163; client++ {
		f.Note(0, client, reply("of nobody"))
		asks(t, f, client, 1, zero, true)
		f.Note(client, 1, reply("first"))
		m.note(client, 1, reply("first"))
	}
	f.Note(0, 1, reply("of nobody"))
	asks(t, f, 0, 1, zero, true)
	isAs(t, f, m)
}

// TestP1101NoteOfTheFirstCall: whatever its number is, it need not be 1.
func TestP1101NoteOfTheFirstCall(t *testing.T) {
	for _, client := range edges {
		for _, seq := range edges {
			if client < 1 || seq < 1 {
				continue
			}
			f, r := folk.New(), reply("first")
			f.Note(client, seq, r)
			isAs(t, f, model{{client, seq, told(r)}})
		}
	}
}

// TestP1101NoteOfGreaterNumbers: each is the last call then, whether numbers were skipped or not, and all below it are stale.
func TestP1101NoteOfGreaterNumbers(t *testing.T) {
	f, m := of(t, [2]int{9, 4}, [2]int{2, 8})
	last := 0
	for i, seq := range []int{1, 2, 3, 7, 8, 100, 1 << 31, 1 << 32, 1<<32 + 1, 1 << 62, math.MaxInt - 1, math.MaxInt} {
		r := reply(fmt.Sprint("the call ", i))
		asks(t, f, 5, seq, zero, true)
		f.Note(5, seq, r)
		m.note(5, seq, r)
		asks(t, f, 5, seq, told(r), false)
		if last > 0 {
			asks(t, f, 5, last, refused(api.ErrStale), false)
		}
		if seq-1 > last {
			asks(t, f, 5, seq-1, refused(api.ErrStale), false) // one that was skipped
		}
		isAs(t, f, m)
		last = seq
	}
}

// replies are of all kinds: with one field alone, with none, with long lists, with numbers and texts of any kind.
func replies() []api.Reply {
	one := func(kv api.KV) api.Reply { return api.Reply{Results: []api.Result{{KVs: []api.KV{kv}}}} }
	long := api.Reply{Results: make([]api.Result, 32)}
	for i := range long.Results {
		long.Results[i].N = i
		for j := range 50 * (i % 3) {
			long.Results[i].KVs = append(long.Results[i].KVs, api.KV{Key: fmt.Sprint(i, "/", j), Value: strings.Repeat("x", j), Create: i, Mod: i + j, Version: j, Lease: i * j})
		}
	}
	wide := api.Reply{Results: []api.Result{{N: 5000, KVs: make([]api.KV, 5000)}}}
	for i := range wide.Results[0].KVs {
		wide.Results[0].KVs[i].Key = fmt.Sprint(i)
	}
	return []api.Reply{
		{},
		{Err: api.ErrArg}, {Err: api.ErrMany}, {Err: api.ErrStale}, {Err: api.ErrNever}, {Err: -1}, {Err: 10}, {Err: 1 << 40},
		{Rev: 1}, {Rev: math.MaxInt}, {Rev: math.MinInt},
		{Then: true},
		{Time: 1}, {Time: 1 << 40}, {Time: -1},
		{Results: []api.Result{}}, {Results: make([]api.Result, 0, 9)}, {Results: make([]api.Result, 1)}, {Results: make([]api.Result, 1000)},
		{Results: []api.Result{{N: 1}, {N: -1}, {N: math.MaxInt}}},
		{Results: []api.Result{{KVs: []api.KV{}}, {N: 2, KVs: make([]api.KV, 3)}, {}}},
		one(api.KV{Key: "k"}), one(api.KV{Value: "v"}), one(api.KV{Create: 1}), one(api.KV{Mod: 1}), one(api.KV{Version: 1}), one(api.KV{Lease: 1}),
		one(api.KV{Key: "\x00\xff\xc3", Value: "ü\n\x00"}), one(api.KV{Value: strings.Repeat("long", 1000)}),
		reply(""), reply("r"), long, wide,
	}
}

// TestP1101NoteOfAllKindsOfReplies: each is answered and told as it was noted, whichever was there ahead of it.
func TestP1101NoteOfAllKindsOfReplies(t *testing.T) {
	f := folk.New()
	for i, r := range replies() {
		want := told(r)
		alone := folk.New()
		alone.Note(3, 5, r)
		asks(t, alone, 3, 5, want, false)
		tells(t, alone, row{3, 5, want})

		f.Note(7, 1+i, r)
		asks(t, f, 7, 1+i, want, false)
		tells(t, f, row{7, 1 + i, want})
	}
	if len(replies()) > 64 {
		t.Fatal("they are too many for one table")
	}
	f = folk.New()
	var all []row
	for i, r := range replies() {
		f.Note(1+i, 1, r)
		all = append(all, row{1 + i, 1, told(r)})
	}
	tells(t, f, all...)
	for _, r := range all {
		asks(t, f, r.client, r.seq, r.reply, false)
	}
}

// TestP1102NoteOfWhatIsNotToBeDone: what Ask refuses, or has an answer to, loses no answer by being noted.
func TestP1102NoteOfWhatIsNotToBeDone(t *testing.T) {
	f, m := of(t, [2]int{3, 5}, [2]int{1, 1}, [2]int{64, math.MaxInt})
	for _, c := range [][2]int{{3, 5}, {3, 4}, {3, 1}, {3, 0}, {3, -5}, {3, math.MinInt}, {1, 1}, {1, 0}, {64, math.MaxInt}, {64, math.MaxInt - 1}, {64, 1}, {2, 0}, {2, -1}, {-1, 1}, {-3, 5}, {-3, 9}, {math.MinInt, math.MaxInt}} {
		f.Note(c[0], c[1], reply("not to be done"))
		isAs(t, f, m)
	}
}

// TestT6NoteOfClientsWithoutRoom: the table does not outgrow its bound.
func TestT6NoteOfClientsWithoutRoom(t *testing.T) {
	f, m := full(t, rand.New(rand.NewSource(4)))
	for client := 1; client < 1001; client++ {
		f.Note(client, 1, reply("one too many"))
	}
	isAs(t, f, m)
}
