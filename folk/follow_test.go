package folk_test

import (
	"fmt"
	"math/rand"
	"runtime"
	"slices"
	"strings"
	"testing"

	"horologe/api"
	"horologe/folk"
)

// drawn does one drawn call on a table and on its model, as a machine would: it asks, and notes what is to be done; at times it notes what is not.
func drawn(t *testing.T, r *rand.Rand, f *folk.Table, m *model, clients int) {
	t.Helper()
	client, seq := r.Intn(clients+1), r.Intn(12)
	if i := m.at(client); i >= 0 {
		seq = (*m)[i].seq + r.Intn(6) - 2
	}
	if r.Intn(30) == 0 {
		client = edges[r.Intn(len(edges))]
	}
	if r.Intn(30) == 0 {
		seq = edges[r.Intn(len(edges))]
	}
	want, due := m.ask(client, seq)
	asks(t, f, client, seq, want, due)
	if due && r.Intn(4) > 0 || r.Intn(10) == 0 {
		x := drawnReply(r)
		m.note(client, seq, x)
		f.Note(client, seq, x)
	}
}

// TestP1102DrawnCalls holds all that is told behind each of many drawn calls against the model, with few clients, and with more than there is room for.
func TestP1102DrawnCalls(t *testing.T) {
	for seed := range int64(24) {
		r := rand.New(rand.NewSource(110200 + seed))
		f, m := folk.New(), model{}
		clients := []int{2, 10, 63, 64, 66, 200}[seed%6]
		for range 400 {
			drawn(t, r, f, &m, clients)
			isAs(t, f, m)
		}
		if clients == 200 && len(m) != 64 {
			t.Errorf("seed %d: %d clients have a call: too few to be of use here", seed, len(m))
		}
	}
}

// TestP1102DoneOnce: clients make each of their calls till it is answered, and some time later again; calls are lost, doubled and mixed up. Each is done once, and always answered as it was, or told to be stale.
func TestP1102DoneOnce(t *testing.T) {
	for seed := range int64(30) {
		r := rand.New(rand.NewSource(110240 + seed))
		f, done := folk.New(), map[[2]int]string{}
		var way [][2]int
		next := [8]int{}
		rev := 0
		for range 3000 {
			client := 1 + r.Intn(8)
			if done[[2]int{client, next[client-1]}] != "" || next[client-1] == 0 {
				next[client-1] += 1 + r.Intn(3)
			}
			for range 1 + r.Intn(3) {
				way = append(way, [2]int{client, next[client-1]})
			}
			i := r.Intn(len(way))
			c := way[i]
			if r.Intn(2) == 0 {
				way = slices.Delete(way, i, i+1)
			}
			answer, due := f.Ask(c[0], c[1])
			if due {
				if done[c] != "" {
					t.Fatalf("seed %d: %v is done twice", seed, c)
				}
				rev++
				answer = drawnReply(r)
				answer.Rev = rev
				done[c] = told(answer)
				f.Note(c[0], c[1], answer)
			}
			last := c[1] == next[c[0]-1]
			if got := told(answer); last && got != done[c] || !last && got != refused(api.ErrStale) && got != done[c] {
				t.Fatalf("seed %d: %v: %s, not %s", seed, c, got, done[c])
			}
			again, due := f.Ask(c[0], c[1])
			if due || told(again) != told(answer) {
				t.Fatalf("seed %d: %v, again: %s, %v", seed, c, told(again), due)
			}
		}
		if rev < 100 {
			t.Errorf("seed %d: %d calls were done: too few to be of use here", seed, rev)
		}
	}
}

// TestP1102AnsweredAsItWasHoweverLate: calls of others, and those that are refused, do not change an answer.
func TestP1102AnsweredAsItWasHoweverLate(t *testing.T) {
	r := rand.New(rand.NewSource(110280))
	f, x := folk.New(), reply("kept")
	f.Note(500, 7, x)
	m := model{{500, 7, told(x)}}
	for range 2000 {
		drawn(t, r, f, &m, 100)
		asks(t, f, 500, 7, told(x), false)
		f.Note(500, r.Intn(8), drawnReply(r))
		asks(t, f, 500, 7, told(x), false)
	}
	isAs(t, f, m)
}

// TestP1WhateverIsHandedIn asks and notes by numbers of all kinds, and with replies of all kinds.
func TestP1WhateverIsHandedIn(t *testing.T) {
	f, m := of(t, [2]int{1, 3}, [2]int{5, 64})
	all := replies()
	for i, client := range edges {
		for j, seq := range edges {
			want, due := m.ask(client, seq)
			asks(t, f, client, seq, want, due)
			x := all[(i*len(edges)+j)%len(all)]
			f.Note(client, seq, x)
			m.note(client, seq, x)
		}
		isAs(t, f, m)
	}
}

// TestP1ATableThatIsNotOfNew is as an empty one.
func TestP1ATableThatIsNotOfNew(t *testing.T) {
	f := &folk.Table{}
	isAs(t, f, nil)
	f.Note(0, 1, reply("of nobody"))
	f.Note(-1, 1, reply("not to be done"))
	isAs(t, f, nil)
	f.Note(3, 5, reply("r"))
	isAs(t, f, model{{3, 5, told(reply("r"))}})
}

// spoil overwrites all lists of replies, their spare room too.
func spoil(l ...*api.Reply) {
	for _, r := range l {
		r.Err, r.Rev, r.Then, r.Time = -9, -9, !r.Then, -9
		results := r.Results[:cap(r.Results)]
		for i := range results {
			kvs := results[i].KVs[:cap(results[i].KVs)]
			for j := range kvs {
				kvs[j] = api.KV{Key: "spoilt", Value: "spoilt", Create: -9, Mod: -9, Version: -9, Lease: -9}
			}
			results[i] = api.Result{N: -9, KVs: kvs}
		}
	}
}

// roomy makes a reply whose lists have spare room, with something in it; two of its results share their keys.
func roomy(text string) api.Reply {
	kvs := []api.KV{{Key: text}, {Key: text + "b"}, {Key: "spare"}, {Key: "spare"}}
	results := []api.Result{{N: 1, KVs: kvs[:2]}, {N: 2, KVs: kvs[:2]}, {N: 3, KVs: kvs[:0]}, {N: 99, KVs: kvs}, {N: 99, KVs: kvs}}
	return api.Reply{Rev: 5, Results: results[:3]}
}

func TestP2WhatIsHandedInIsNotChanged(t *testing.T) {
	f, x := folk.New(), roomy("in")
	whole := func() string {
		return told(x) + told(api.Reply{Results: x.Results[:5]}) + told(api.Reply{Results: []api.Result{{KVs: x.Results[0].KVs[:4]}}})
	}
	was := whole()
	f.Note(3, 5, x)
	f.Note(4, 5, x)
	for range 2 {
		r, _ := f.Ask(3, 5)
		spoil(&r)
		for _, row := range f.All() {
			spoil(&row.Reply)
		}
	}
	f.Note(3, 6, reply("next"))
	if got := whole(); got != was {
		t.Errorf("the caller's: %s, not %s", got, was)
	}
}

func TestP2WhatIsHandedInIsNotKept(t *testing.T) {
	f, x, y := folk.New(), roomy("in"), reply("in")
	f.Note(3, 5, x)
	f.Note(4, 5, x) // the same lists, for two clients
	f.Note(5, 5, y)
	m := model{{3, 5, told(x)}, {4, 5, told(x)}, {5, 5, told(y)}}
	spoil(&x, &y)
	isAs(t, f, m)
}

func TestP2AnswersAreTheCallersOwn(t *testing.T) {
	f, x, y := folk.New(), roomy("in"), reply("in")
	f.Note(3, 5, x)
	f.Note(4, 5, x)
	f.Note(5, 5, y)
	m := model{{3, 5, told(x)}, {4, 5, told(x)}, {5, 5, told(y)}}
	for range 3 {
		for client := 3; client <= 5; client++ {
			r, _ := f.Ask(client, 5)
			other, _ := f.Ask(client, 5)
			all := f.All()
			was := rows(all)
			spoil(&r)
			_ = append(r.Results, api.Result{N: 7})
			asks(t, f, client, 5, m[client-3].reply, false)
			if told(other) != m[client-3].reply || !slices.Equal(rows(all), was) {
				t.Fatalf("an answer changed another one: %s, %v", told(other), rows(all))
			}
			for i := range all[:cap(all)] {
				spoil(&all[:cap(all)][i].Reply)
				all[:cap(all)][i].Client, all[:cap(all)][i].Seq = 99, 99
			}
			isAs(t, f, m)
		}
	}
}

// TestP2ListsOfOneAnswer share nothing with each other, nor do their spare rooms, though those that were handed in did.
func TestP2ListsOfOneAnswer(t *testing.T) {
	f := folk.New()
	f.Note(3, 5, roomy("in"))
	f.Note(4, 5, roomy("in"))
	alone := func(r *api.Result) *api.Reply { return &api.Reply{Results: []api.Result{*r}} }
	lists := func() []*api.Result {
		var l []*api.Result
		for _, row := range f.All() {
			for i := range row.Reply.Results {
				l = append(l, &row.Reply.Results[i])
			}
		}
		return l
	}
	for i := range lists() {
		l := lists()
		var was []string
		for _, r := range l {
			was = append(was, told(*alone(r)))
		}
		spoil(alone(l[i]))
		_ = append(l[i].KVs, api.KV{Key: "more"}, api.KV{Key: "more"})
		for j := range l {
			if got := told(*alone(l[j])); j != i && got != was[j] {
				t.Errorf("list %d changed list %d: %s, not %s", i, j, got, was[j])
			}
		}
	}
}

func TestP2AnAnswerStaysAsItWas(t *testing.T) {
	f, m := of(t, [2]int{3, 5}, [2]int{1, 1})
	r, _ := f.Ask(3, 5)
	all := f.All()
	was, wasAll := told(r), rows(all)
	f.Note(3, 6, reply("next"))
	f.Note(1, 7, reply("next"))
	f.Note(2, 1, reply("next"))
	if told(r) != was || !slices.Equal(rows(all), wasAll) || !slices.Equal(wasAll, m.all()) {
		t.Errorf("what was answered changed: %s, %v", told(r), rows(all))
	}
}

// TestNothingIsHeldOfLongTexts: nor of lists of which nothing is told, nor of replies ahead of the last one.
func TestNothingIsHeldOfLongTexts(t *testing.T) {
	held := func() uint64 {
		runtime.GC()
		var m runtime.MemStats
		runtime.ReadMemStats(&m)
		return m.HeapAlloc
	}
	f := folk.New()
	before := held()
	for client := 1; client <= 32; client++ {
		f.Note(client, 1, api.Reply{Results: []api.Result{{KVs: []api.KV{{Key: strings.Repeat("x", 1<<20)}}}}})
		key, value := strings.Repeat("x", 1<<20), strings.Repeat("y", 1<<20)
		f.Note(client, 2, api.Reply{Results: []api.Result{{KVs: []api.KV{{Key: key[5:9], Value: value[5:9]}}}, {KVs: make([]api.KV, 0, 1<<14)}}})
		f.Note(32+client, 1, api.Reply{Results: make([]api.Result, 0, 1<<14)})
	}
	if after := held(); after > before+1<<22 {
		t.Errorf("%d bytes are held", after-before)
	}
	runtime.KeepAlive(f)
}

// TestP3TheSameCalls answer the same in two tables.
func TestP3TheSameCalls(t *testing.T) {
	made := func() string {
		r, f, m := rand.New(rand.NewSource(3)), folk.New(), model{}
		var b strings.Builder
		for range 1000 {
			drawn(t, r, f, &m, 80)
			x, due := f.Ask(r.Intn(80), r.Intn(12))
			fmt.Fprintln(&b, told(x), due, rows(f.All()))
		}
		return b.String()
	}
	if made() != made() {
		t.Error("two tables that were called alike differ")
	}
}

func TestP7TablesAreOfTheirOwn(t *testing.T) {
	f, m := full(t, rand.New(rand.NewSource(7)))
	other := folk.New()
	isAs(t, other, nil)
	other.Note(1001, 50, reply("in another table"))
	other.Note(1, 3, reply("in another table"))
	isAs(t, f, m)
	f.Note(1002, 11, reply("next"))
	m.note(1002, 11, reply("next"))
	isAs(t, other, model{{1001, 50, told(reply("in another table"))}, {1, 3, told(reply("in another table"))}})
}

// TestP1102ATableOfRows: one that is made of another one's rows goes on as that one does.
func TestP1102ATableOfRows(t *testing.T) {
	f, _ := full(t, rand.New(rand.NewSource(8)))
	for range 3 {
		made, m := folk.New(), model{}
		for _, row := range f.All() {
			made.Note(row.Client, row.Seq, row.Reply)
			m.note(row.Client, row.Seq, row.Reply)
		}
		isAs(t, made, m)
		isAs(t, f, m)
		r := rand.New(rand.NewSource(9))
		for range 300 {
			drawn(t, r, made, &m, 1100)
		}
		isAs(t, made, m)
		f = made
	}
}
