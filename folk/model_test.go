package folk_test

import (
	"cmp"
	"fmt"
	"math"
	"math/rand"
	"slices"
	"strings"
	"testing"

	"horologe/api"
	"horologe/folk"
)

// edges are numbers of all kinds that a client or the number of its call may and may not be.
var edges = []int{math.MinInt, math.MinInt + 1, -1 << 62, -1 << 32, -65, -64, -5, -2, -1, 0, 1, 2, 3, 5, 63, 64, 65, 1 << 31, 1 << 32, 1<<32 + 1, 1 << 62, math.MaxInt - 1, math.MaxInt}

// zero is told of the reply of which nothing is set, refused of one with an error alone.
var zero = told(api.Reply{})

func refused(err api.Errno) string { return told(api.Reply{Err: err}) }

// told writes out all that a reply says. No list and an empty one are told alike.
func told(r api.Reply) string {
	var b strings.Builder
	fmt.Fprintf(&b, "err %d rev %d then %v time %d:", int(r.Err), r.Rev, r.Then, r.Time)
	for _, x := range r.Results {
		fmt.Fprintf(&b, " (%d", x.N)
		for _, kv := range x.KVs {
			fmt.Fprintf(&b, " %q=%q %d.%d.%d.%d", kv.Key, kv.Value, kv.Create, kv.Mod, kv.Version, kv.Lease)
		}
		b.WriteString(")")
	}
	return b.String()
}

// row is a call as the model keeps it: its reply as it was told when it was noted.
type row struct {
	client, seq int
	reply       string
}

// model is a table as plain as can be: the last calls, in the order of the clients' first ones.
type model []row

func (m model) at(client int) int {
	return slices.IndexFunc(m, func(r row) bool { return r.client == client })
}

func (m model) ask(client, seq int) (string, bool) {
	i := m.at(client)
	if client == 0 {
		return zero, true
	}
	if client < 0 || seq <= 0 {
		return refused(api.ErrArg), false
	}
	if i < 0 && len(m) == 64 {
		return refused(api.ErrMany), false
	}
	if i < 0 || m[i].seq < seq {
		return zero, true
	}
	if m[i].seq > seq {
		return refused(api.ErrStale), false
	}
	return m[i].reply, false
}

func (m *model) note(client, seq int, r api.Reply) {
	if _, due := m.ask(client, seq); client == 0 || !due {
		return
	}
	if i := m.at(client); i >= 0 {
		*m = slices.Delete(*m, i, i+1)
	}
	*m = append(*m, row{client, seq, told(r)})
}

func (m model) all() []row {
	l := slices.Clone(m)
	slices.SortFunc(l, func(a, b row) int { return cmp.Compare(a.client, b.client) })
	return l
}

// asks holds what Ask answers against what was to come.
func asks(t *testing.T, f *folk.Table, client, seq int, want string, due bool) {
	t.Helper()
	if r, do := f.Ask(client, seq); told(r) != want || do != due {
		t.Fatalf("Ask(%d, %d): %s, %v, not %s, %v", client, seq, told(r), do, want, due)
	}
}

// tells holds what All tells against what was to come.
func tells(t *testing.T, f *folk.Table, want ...row) {
	t.Helper()
	if got := rows(f.All()); !slices.Equal(got, want) {
		t.Fatalf("All: %v, not %v", got, want)
	}
}

func rows(all []folk.Row) []row {
	var l []row
	for _, x := range all {
		l = append(l, row{x.Client, x.Seq, told(x.Reply)})
	}
	return l
}

// isAs holds all that a table tells against the model: its rows, its answers around each client's last call, and those to clients of all kinds.
func isAs(t *testing.T, f *folk.Table, m model) {
	t.Helper()
	as := func(client, seq int) {
		t.Helper()
		want, due := m.ask(client, seq)
		asks(t, f, client, seq, want, due)
	}
	tells(t, f, m.all()...)
	for _, r := range m {
		for _, seq := range []int{0, 1, r.seq - 1, r.seq, min(r.seq, math.MaxInt-1) + 1, math.MaxInt} {
			as(r.client, seq)
		}
	}
	for _, client := range edges {
		for _, seq := range []int{-1, 0, 1, math.MaxInt} {
			as(client, seq)
		}
	}
	tells(t, f, m.all()...)
}

// of makes a table of calls that are all to be done, noted in the order in which they are told, and its model.
func of(t *testing.T, calls ...[2]int) (*folk.Table, model) {
	t.Helper()
	f, m := folk.New(), model{}
	for _, c := range calls {
		r := reply(fmt.Sprint("of ", c))
		asks(t, f, c[0], c[1], zero, true)
		f.Note(c[0], c[1], r)
		m.note(c[0], c[1], r)
	}
	return f, m
}

// full makes a table of as many clients as may be, 1001 to 1064 in a drawn order, the last call of each being its 10th, and its model.
func full(t *testing.T, r *rand.Rand) (*folk.Table, model) {
	t.Helper()
	var calls [][2]int
	for _, i := range r.Perm(64) {
		calls = append(calls, [2]int{1001 + i, 10})
	}
	return of(t, calls...)
}

// reply makes one that has something in each of its fields, and that can be told from others.
func reply(text string) api.Reply {
	return api.Reply{Err: api.ErrFull, Rev: 7, Then: true, Time: 9, Results: []api.Result{
		{N: 1},
		{N: 2, KVs: []api.KV{{Key: text, Value: "v", Create: 3, Mod: 4, Version: 5, Lease: 6}, {Key: "b"}}},
	}}
}

// drawnReply makes one of drawn fields, any of which may be zero.
func drawnReply(r *rand.Rand) api.Reply {
	x := api.Reply{Err: api.Errno(r.Intn(29)), Rev: r.Intn(1000), Then: r.Intn(2) == 0, Time: r.Intn(1000)}
	for range r.Intn(4) {
		l := make([]api.KV, r.Intn(4))
		for i := range l {
			l[i] = api.KV{Key: fmt.Sprint(r.Intn(9)), Value: strings.Repeat("v", r.Intn(5)), Create: r.Intn(9), Mod: r.Intn(9), Version: r.Intn(9), Lease: r.Intn(9)}
		}
		x.Results = append(x.Results, api.Result{N: r.Intn(9), KVs: l})
	}
	return x
}
