package machine

import (
	"cmp"
	"fmt"
	"math/rand"
	"slices"
	"strings"
	"testing"

	"horologe/api"
)

// cell is a key of a tiny machine: when it was created, put last, how often (0: it is not there).
type cell struct{ create, mod, version uint8 }

// picture is all keys of a tiny machine, in order.
type picture [9]cell

// tiny is a machine of few keys and few operations, of which all that it can be at each revision is known.
type tiny struct {
	names     []string
	ops       int
	layers    []map[picture][]picture // of each revision: what can be there, and what can be there behind it
	revisions int
}

func newTiny(ops, revisions int, names string) *tiny {
	t := &tiny{names: strings.Fields(names), ops: ops, revisions: revisions, layers: []map[picture][]picture{{picture{}: nil}}}
	for rev := 1; rev < revisions; rev++ {
		next := map[picture][]picture{}
		for p := range t.layers[rev-1] {
			all := t.behind(p, rev)
			t.layers[rev-1][p] = all
			for _, q := range all {
				next[q] = nil
			}
		}
		t.layers = append(t.layers, next)
	}
	return t
}

// behind tells all that one transaction of nobody can make of a picture.
func (t *tiny) behind(p picture, rev int) []picture {
	var all []picture
	var each func(i int, q picture, puts int)
	each = func(i int, q picture, puts int) {
		if puts > t.ops {
			return
		}
		if i == len(t.names) {
			if q != p && t.needs(p, q) <= t.ops {
				all = append(all, q)
			}
			return
		}
		each(i+1, q, puts)
		was := q[i]
		q[i] = put1(was, rev)
		each(i+1, q, puts+1)
		if was.version > 0 {
			q[i] = cell{}
			each(i+1, q, puts)
		}
	}
	each(0, p, 0)
	return all
}

func put1(c cell, rev int) cell {
	if c.version == 0 {
		c.create = uint8(rev)
	}
	return cell{c.create, uint8(rev), c.version + 1}
}

// needs tells how many operations make one picture of another one: a put each, and one for all keys that go side by side.
func (t *tiny) needs(p, q picture) int {
	n := 0
	goes := false
	for i := range t.names {
		switch {
		case p[i] != q[i] && q[i].version > 0:
			n++
			goes = false
		case p[i] != q[i]:
			if !goes {
				n++
			}
			goes = true
		case q[i].version > 0:
			goes = false
		}
	}
	return n
}

// follows tells whether one transaction of nobody can make q, at a revision, of p.
func (t *tiny) follows(p, q picture, rev int) bool {
	for i := range t.names {
		if p[i] != q[i] && q[i].version > 0 && q[i] != put1(p[i], rev) {
			return false
		}
	}
	return p != q && t.needs(p, q) <= t.ops
}

func (t *tiny) kv(p picture, i int) api.KV {
	return api.KV{Key: t.names[i], Value: "v", Create: int(p[i].create), Mod: int(p[i].mod), Version: int(p[i].version)}
}

// tells says whether a range can be answered so by what is there.
func (t *tiny) tells(p picture, r api.Result) bool {
	if len(r.KVs) == 0 {
		return r.N == 0
	}
	at := slices.Index(t.names, r.KVs[0].Key)
	if at < 0 {
		return false
	}
	n, there := 0, 0
	for ; at < len(t.names); at++ {
		if p[at].version == 0 {
			continue
		}
		if there++; n < len(r.KVs) {
			if t.kv(p, at) != r.KVs[n] {
				return false
			}
			n++
		}
	}
	return n == len(r.KVs) && there >= r.N
}

func (t *tiny) answers(p picture, r api.Reply) bool {
	return !slices.ContainsFunc(r.Results, func(x api.Result) bool { return !t.tells(p, x) })
}

// made tells all that a transaction that is answered so can make of a picture.
func (t *tiny) made(p picture, rev int, results []api.Result) map[picture]int {
	all := map[picture]int{}
	var each func(i int, q picture, puts, spans [9]bool)
	each = func(i int, q picture, puts, spans [9]bool) {
		if i == len(results) {
			if q != p {
				all[q]++
			}
			return
		}
		r := results[i]
		if len(r.KVs) > 0 || r.N == 0 {
			if t.tells(q, r) {
				each(i+1, q, puts, spans)
			}
			if len(r.KVs) > 0 {
				return
			}
		}
		for k := range t.names {
			if r.N <= 1 && !puts[k] && !spans[k] && (q[k].version > 0) == (r.N == 1) {
				q2, puts2 := q, puts
				q2[k], puts2[k] = put1(q[k], rev), true
				each(i+1, q2, puts2, spans)
			}
			if r.N < 1 || q[k].version == 0 || puts[k] {
				continue
			}
			q2, spans2, n := q, spans, 0
			for j := k; j < len(t.names) && !puts[j] && n < r.N; j++ {
				spans2[j] = true
				if q[j].version > 0 {
					q2[j] = cell{}
					n++
				}
			}
			if n == r.N {
				each(i+1, q2, puts, spans2)
			}
		}
	}
	each(0, p, [9]bool{}, [9]bool{})
	return all
}

// could tells whether commands can have left a picture at the last revision, and have answered so. (Replies are not in order of time.)
func (t *tiny) could(last picture, replies []api.Reply) bool {
	now := map[picture]int{{}: 1}
	at := func(rev int) []api.Reply {
		var l []api.Reply
		for _, r := range replies {
			if r.Rev == rev {
				l = append(l, r)
			}
		}
		return l
	}
	for _, r := range at(0) {
		if !t.answers(picture{}, r) {
			return false
		}
	}
	for rev := 1; rev <= t.revisions; rev++ {
		here, next := at(rev), map[picture]int{}
		fits := func(q picture, maker int) bool {
			if rev == t.revisions && q != last {
				return false
			}
			for i, r := range here {
				if i != maker && !t.answers(q, r) {
					return false
				}
			}
			return true
		}
		for p := range now {
			if rev == t.revisions {
				if t.follows(p, last, rev) && fits(last, -1) {
					return true
				}
			} else {
				for _, q := range t.layers[rev-1][p] {
					if next[q] == 0 && fits(q, -1) {
						next[q]++
					}
				}
			}
			for i, r := range here {
				for q := range t.made(p, rev, r.Results) {
					if fits(q, i) {
						next[q]++
					}
				}
			}
		}
		now = next
	}
	return len(now) > 0
}

// tale draws what a tiny machine does.
type tale struct {
	*rand.Rand
	*tiny
}

// name draws one, mostly one of three: the others are there to be what nothing is told of.
func (d *tale) name() int {
	if d.Intn(6) == 0 {
		return d.Intn(len(d.names))
	}
	for {
		if i := d.Intn(len(d.names)); len(d.names[i]) == 1 && strings.Contains("bdf", d.names[i]) {
			return i
		}
	}
}

// txn draws a transaction, and tells what it makes and how it is answered.
func (d *tale) txn(p picture, rev int) (picture, []api.Result) {
	var results []api.Result
	var puts, spans [9]bool
	q := p
	for n := 1 + d.Intn(d.ops); n > 0; n-- {
		i := d.name()
		switch k := d.Intn(6); {
		case k < 3 && !puts[i] && !spans[i]:
			results = append(results, api.Result{N: min(1, int(q[i].version))})
			q[i], puts[i] = put1(q[i], rev), true
		case k == 3:
			j := max(i, d.name())
			if slices.Contains(puts[i:j+1], true) {
				continue
			}
			n := 0
			for ; i <= j; i++ {
				spans[i] = true
				if q[i].version > 0 {
					n++
				}
				q[i] = cell{}
			}
			results = append(results, api.Result{N: n})
		default:
			results = append(results, d.rangeOf(q, i))
		}
	}
	return q, results
}

func (d *tale) rangeOf(q picture, from int) api.Result {
	to, limit := len(d.names), d.Intn(4)
	if d.Intn(2) == 0 {
		to = max(from, d.name()) + 1
	}
	var r api.Result
	for i := from; i < to; i++ {
		if q[i].version == 0 {
			continue
		}
		if r.N++; limit == 0 || len(r.KVs) < limit {
			r.KVs = append(r.KVs, d.kv(q, i))
		}
	}
	return r
}

// story draws commands, and tells what they leave and what so many clients were answered.
func (d *tale) story(clients int) (picture, []api.Reply) {
	var p picture
	replies := make([]api.Reply, clients)
	for rev := 0; rev < d.revisions; {
		client := d.Intn(clients + 1)
		q, results := d.txn(p, rev+1)
		if d.Intn(5) == 0 {
			q, results = p, []api.Result{d.rangeOf(p, d.name())}
		}
		if q != p {
			rev++
		}
		p = q
		if client < clients {
			replies[client] = api.Reply{Rev: rev, Results: results}
		}
	}
	return p, replies
}

// turn changes something small.
func (d *tale) turn(p *picture, replies []api.Reply) {
	i := d.name()
	switch d.Intn(8) {
	case 0:
		p[i] = cell{}
	case 1:
		c := uint8(1 + d.Intn(d.revisions))
		p[i] = cell{c, c, 1}
	case 2:
		if p[i].version > 0 {
			p[i].mod = uint8(1 + d.Intn(d.revisions))
		}
	case 3:
		if p[i].version > 0 {
			p[i].version = uint8(1 + d.Intn(d.revisions))
		}
	case 4:
		replies[d.Intn(len(replies))].Rev = d.Intn(d.revisions + 1)
	default:
		r := &replies[d.Intn(len(replies))]
		r.Results = cloneResults(r.Results)
		if len(r.Results) == 0 {
			r.Results = []api.Result{{N: d.Intn(3)}}
			return
		}
		x := &r.Results[d.Intn(len(r.Results))]
		switch d.Intn(4) {
		case 0:
			x.N = max(len(x.KVs), x.N-1+d.Intn(3))
		case 1:
			if len(x.KVs) > 0 {
				at := d.Intn(len(x.KVs))
				x.KVs = slices.Delete(x.KVs, at, at+1)
				x.N--
			}
		case 2:
			if len(x.KVs) > 0 {
				kv := &x.KVs[d.Intn(len(x.KVs))]
				kv.Mod = 1 + d.Intn(d.revisions)
				kv.Create = 1 + d.Intn(kv.Mod)
				kv.Version = 1 + d.Intn(kv.Mod-kv.Create+1)
			}
		case 3:
			*x = api.Result{N: d.Intn(3)}
		}
	}
}

func cloneResults(l []api.Result) []api.Result {
	l = slices.Clone(l)
	for i := range l {
		l[i].KVs = slices.Clone(l[i].KVs)
	}
	return l
}

// sound tells whether mvcc, and the looks ahead of all others, take these.
func (d *tale) sound(p picture, replies []api.Reply) bool {
	for i := range d.names {
		if p[i].version > 0 && !couldBePut(d.kv(p, i)) {
			return false
		}
	}
	for _, r := range replies {
		if !couldTell(r.Results) || len(r.Results) > d.ops {
			return false
		}
	}
	return d.revisions != 1 || p != picture{}
}

func (d *tale) base(p picture) []api.KV {
	var l []api.KV
	for i := range d.names {
		if p[i].version > 0 {
			l = append(l, d.kv(p, i))
		}
	}
	return l
}

func (d *tale) text(p picture, replies []api.Reply) string {
	var b strings.Builder
	tell := func(kvs []api.KV) {
		for _, kv := range kvs {
			fmt.Fprintf(&b, "%s.%d.%d.%d ", kv.Key, kv.Create, kv.Mod, kv.Version)
		}
	}
	fmt.Fprintf(&b, "at %d: ", d.revisions)
	tell(d.base(p))
	for _, r := range replies {
		fmt.Fprintf(&b, "\n  at %d:", r.Rev)
		for _, x := range r.Results {
			fmt.Fprintf(&b, " (%d: ", x.N)
			tell(x.KVs)
			b.WriteString(")")
		}
	}
	return b.String()
}

// TestP1203TinyMachines: what commands leave of a compacted past is taken; what they can't leave is refused, but for some that need keys for which a tiny machine has no names.
func TestP1203TinyMachines(t *testing.T) {
	for _, c := range []struct {
		ops, revisions, clients int
		names                   string
		seed                    int64
	}{{1, 3, 3, "a b c d e f g h i", 1}, {1, 4, 4, "a b c d e f g h i", 2}, {1, 5, 4, "a b c d e f g", 3}, {2, 2, 3, "a b c1 c2 d e1 e2 f g", 4}, {2, 3, 3, "a b c d e f g", 5}, {2, 3, 2, "b c1 c2 d e1 f g1", 6}, {3, 2, 3, "a b c1 c2 d e1 e2 f g", 7}} {
		t.Run(fmt.Sprintf("%d operations, %d revisions, %d clients", c.ops, c.revisions, c.clients), func(t *testing.T) {
			t.Parallel()
			d := &tale{Rand: rand.New(rand.NewSource(c.seed)), tiny: newTiny(c.ops, c.revisions, c.names)}
			refused, missed := 0, 0
			for range 3000 {
				p, replies := d.story(c.clients)
				turns := d.Intn(4)
				for range turns {
					d.turn(&p, replies)
				}
				if !d.sound(p, replies) {
					continue
				}
				slices.SortStableFunc(replies, func(a, b api.Reply) int { return cmp.Compare(a.Rev, b.Rev) })
				got := couldBeCompacted(limits{c.ops, api.MaxKeys}, c.revisions, 0, d.base(p), replies)
				switch {
				case !got && (turns == 0 || d.could(p, replies)):
					t.Fatalf("refused, but commands leave it: %s", d.text(p, replies))
				case !got:
					refused++
				case turns > 0 && !d.could(p, replies):
					missed++
					t.Logf("taken: %s", d.text(p, replies))
				}
			}
			if t.Logf("%d refused, %d taken that may not be", refused, missed); refused < 300 || missed*150 > refused {
				t.Error("too few are refused")
			}
		})
	}
}
