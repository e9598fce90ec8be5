package raft_test

import (
	"fmt"
	"math/rand"
	"slices"
	"testing"

	"horologe/api"
	"horologe/raft"
)

// model is a node as plain as can be: it keeps all entries by their Index, and looks for all that it needs each time.
type model struct {
	id                    int
	given                 []int
	term, vote, commit    int
	told                  api.Hard
	meta                  api.Meta
	data                  string
	log                   map[int]api.Entry
	applied, changedFrom  int // changedFrom 0: nothing is new
	role, leader          int
	ticks, limit, draw    int
	votes                 map[int]bool
	next, match, heard    map[int]int
	round                 int
	waits                 []wait
	out                   raft.Ready
	queued                []string // messages, as texts
	hasSnap               bool
	snapMeta, snapContent string
}

type wait struct{ ctx, round, commit int }

func newModel(id int, voters []int, h api.Hard, m api.Meta, data string, log []api.Entry) *model {
	x := &model{id: id, given: voters, term: h.Term, vote: h.Vote, told: h, meta: m, data: data, log: map[int]api.Entry{}, applied: m.Index, leader: -1, limit: 10}
	for _, e := range log {
		x.log[e.Index] = e
	}
	x.term = max(h.Term, m.Term, x.termOf(x.last()))
	if x.term > h.Term {
		x.vote = -1
	}
	x.commit = min(max(h.Commit, m.Index), x.last())
	return x
}

func (x *model) last() int {
	last := x.meta.Index
	for i := range x.log {
		last = max(last, i)
	}
	return last
}

func (x *model) termOf(i int) int {
	if i == x.meta.Index && i > 0 {
		return x.meta.Term
	}
	return x.log[i].Term
}

func (x *model) votersAt(index int) []int {
	for i := index; i > x.meta.Index; i-- {
		if e := x.log[i]; e.Kind == api.EVoters {
			var l []int
			for at := 1; at < len(e.Data); at += 8 {
				l = append(l, int(e.Data[at+6])<<8|int(e.Data[at+7]))
			}
			return l
		}
	}
	if x.meta.Index > 0 {
		return x.meta.Voters
	}
	return x.given
}

func (x *model) voters() []int { return x.votersAt(x.last()) }

func (x *model) votes4(id int) bool { return slices.Contains(x.voters(), id) }

// most tells whether more than half of the voters are so.
func (x *model) most(is func(id int) bool) bool {
	n := 0
	for _, id := range x.voters() {
		if is(id) {
			n++
		}
	}
	return n > len(x.voters())/2
}

func (x *model) send(m api.Msg) {
	m.From, m.Term = x.id, x.term
	x.queued = append(x.queued, msgText(m))
}

func (x *model) countAnew() { x.ticks, x.limit = 0, 10+x.draw }

func (x *model) follow() {
	if x.role != raft.Follower {
		x.countAnew()
	}
	x.role, x.leader, x.waits, x.round = raft.Follower, -1, nil, 0
}

func (x *model) tick(draw int) {
	x.draw = draw % 10
	if x.draw < 0 {
		x.draw += 10
	}
	x.ticks++
	switch {
	case x.role == raft.Leader && x.ticks%3 == 0:
		x.sendAll()
	case x.role != raft.Leader && x.ticks >= x.limit && x.votes4(x.id):
		x.stand()
	}
}

func (x *model) stand() {
	x.countAnew()
	x.term++
	x.vote, x.role, x.leader, x.votes = x.id, raft.Candidate, -1, map[int]bool{x.id: true}
	for _, id := range x.voters() {
		if id != x.id {
			x.send(api.Msg{Kind: api.MVote, To: id, Index: x.last(), LogTerm: x.termOf(x.last())})
		}
	}
	x.elected()
}

func (x *model) elected() {
	if !x.most(func(id int) bool { return x.votes[id] }) {
		return
	}
	x.role, x.leader, x.ticks, x.round, x.waits = raft.Leader, x.id, 0, 0, nil
	x.next, x.match, x.heard = map[int]int{}, map[int]int{}, map[int]int{}
	for _, id := range x.voters() {
		x.next[id] = x.last() + 1
	}
	x.lay(api.Entry{Index: x.last() + 1, Term: x.term, Kind: api.EEmpty})
	x.sendAll()
	x.look()
}

func (x *model) lay(e api.Entry) {
	for i := range x.log {
		if i >= e.Index {
			delete(x.log, i)
		}
	}
	x.log[e.Index] = e
	if x.changedFrom == 0 || e.Index < x.changedFrom {
		x.changedFrom = e.Index
	}
}

func (x *model) sendAll() {
	for _, id := range x.voters() {
		if id != x.id {
			x.sendOne(id)
		}
	}
}

func (x *model) sendOne(id int) {
	next := x.next[id]
	if next <= x.meta.Index && x.meta.Index > 0 {
		x.send(api.Msg{Kind: api.MSnap, To: id, Meta: x.meta, Data: []byte(x.data), Seq: x.round})
		return
	}
	m := api.Msg{Kind: api.MApp, To: id, Index: next - 1, LogTerm: x.termOf(next - 1), Commit: x.commit, Seq: x.round}
	for i := next; i <= x.last() && i < next+8; i++ {
		m.Entries = append(m.Entries, x.log[i])
	}
	x.send(m)
}

// look looks what is committed, index by index from the last one down.
func (x *model) look() {
	for i := x.last(); i > x.commit; i-- {
		if x.termOf(i) != x.term || !x.most(func(id int) bool { return id == x.id || x.match[id] >= i }) {
			continue
		}
		x.commit = i
		x.sendAll()
		if fmt.Sprint(x.votersAt(i)) == fmt.Sprint(x.voters()) && !x.votersAbove(i) && !x.votes4(x.id) {
			x.follow()
		}
		return
	}
}

func (x *model) votersAbove(index int) bool {
	for i, e := range x.log {
		if i > index && e.Kind == api.EVoters {
			return true
		}
	}
	return false
}

func (x *model) confirm() {
	for len(x.waits) > 0 && x.most(func(id int) bool { return id == x.id || x.heard[id] >= x.waits[0].round }) {
		x.out.Reads = append(x.out.Reads, raft.Read{Ctx: x.waits[0].ctx, Index: x.waits[0].commit})
		x.waits = x.waits[1:]
	}
}

// step takes a message that may be.
func (x *model) step(m api.Msg) {
	if m.Term > x.term {
		x.term, x.vote = m.Term, -1
		x.follow()
	}
	if m.Term < x.term {
		switch m.Kind {
		case api.MVote:
			x.send(api.Msg{Kind: api.MVoteReply, To: m.From})
		case api.MApp, api.MSnap:
			x.send(api.Msg{Kind: api.MAppReply, To: m.From, Match: x.last(), Seq: m.Seq})
		}
		return
	}
	switch m.Kind {
	case api.MVote:
		lastTerm := x.termOf(x.last())
		grants := (x.vote == -1 || x.vote == m.From) && (m.LogTerm > lastTerm || m.LogTerm == lastTerm && m.Index >= x.last())
		if grants {
			x.vote = m.From
			x.countAnew()
		}
		x.send(api.Msg{Kind: api.MVoteReply, To: m.From, OK: grants})
	case api.MVoteReply:
		if x.role == raft.Candidate && m.OK && x.votes4(m.From) {
			x.votes[m.From] = true
			x.elected()
		}
	case api.MAppReply:
		if x.role == raft.Leader && x.votes4(m.From) {
			x.replied(m)
		}
	case api.MApp, api.MSnap:
		if x.role != raft.Leader {
			x.follow()
			x.countAnew()
			x.leader = m.From
			x.led(m)
		}
	}
}

func (x *model) replied(m api.Msg) {
	id := m.From
	x.heard[id] = max(x.heard[id], m.Seq)
	if m.OK {
		x.match[id] = max(x.match[id], min(m.Match, x.last()))
		x.next[id] = max(x.next[id], x.match[id]+1)
	} else if m.Match < x.next[id] {
		x.next[id] = max(m.Match+1, x.match[id]+1)
	}
	x.look()
	x.confirm()
	if x.role == raft.Leader && x.match[id] < x.last() {
		x.sendOne(id)
	}
}

func (x *model) led(m api.Msg) {
	answer := api.Msg{Kind: api.MAppReply, To: m.From, Seq: m.Seq, OK: true}
	switch {
	case m.Kind == api.MSnap && m.Meta.Index <= x.commit, m.Kind == api.MApp && m.Index < x.commit:
		answer.Match = x.commit
	case m.Kind == api.MSnap:
		x.restore(m)
		answer.Match = m.Meta.Index
	case m.Index > x.last() || x.termOf(m.Index) != m.LogTerm:
		answer.OK, answer.Match = false, min(x.last(), m.Index-1)
	default:
		answer.Match = m.Index + len(m.Entries)
		for _, e := range m.Entries {
			if old, is := x.log[e.Index]; !is || old.Term != e.Term {
				x.lay(e)
			}
		}
		x.commit = max(x.commit, min(m.Commit, answer.Match))
	}
	x.send(answer)
}

func (x *model) restore(m api.Msg) {
	e, is := x.log[m.Meta.Index]
	for i := range x.log {
		if i <= m.Meta.Index || !is || e.Term != m.Meta.Term {
			delete(x.log, i)
		}
	}
	x.meta, x.data, x.commit, x.applied = m.Meta, string(m.Data), m.Meta.Index, m.Meta.Index
	x.hasSnap, x.snapMeta, x.snapContent = true, metaText(m.Meta), string(m.Data)
}

func (x *model) propose(text string) (int, int, api.Errno) {
	switch {
	case x.role != raft.Leader:
		return 0, 0, api.ErrLeader
	case x.last()-x.commit >= 64:
		return 0, 0, api.ErrFull
	}
	index := x.last() + 1
	x.lay(data(index, x.term, text))
	x.sendAll()
	x.look()
	return index, x.term, api.OK
}

func (x *model) change(ids []int) (int, api.Errno) {
	if x.role != raft.Leader {
		return 0, api.ErrLeader
	}
	differ := 0
	for id := range 10 {
		if slices.Contains(ids, id) != x.votes4(id) {
			differ++
		}
	}
	switch {
	case len(ids) == 0 || len(ids) > 7 || differ != 1:
		return 0, api.ErrArg
	case x.votersAbove(x.commit) || x.termOf(x.commit) != x.term:
		return 0, api.ErrBusy
	}
	index := x.last() + 1
	x.lay(voters(index, x.term, ids...))
	for id := range 10 {
		if !slices.Contains(ids, id) {
			delete(x.next, id)
			delete(x.match, id)
			delete(x.heard, id)
		} else if _, known := x.next[id]; !known {
			x.next[id] = index
		}
	}
	x.sendAll()
	x.look()
	x.confirm()
	return index, api.OK
}

func (x *model) read(ctx int) api.Errno {
	switch {
	case x.role != raft.Leader:
		return api.ErrLeader
	case x.termOf(x.commit) != x.term:
		return api.ErrReady
	case len(x.waits) == 64:
		return api.ErrMany
	}
	x.round++
	x.waits = append(x.waits, wait{ctx, x.round, x.commit})
	x.sendAll()
	x.confirm()
	return api.OK
}

func (x *model) compact(index int, text string) api.Errno {
	if index <= x.meta.Index || index > x.applied {
		return api.ErrArg
	}
	x.meta = api.Meta{Index: index, Term: x.termOf(index), Voters: x.votersAt(index)}
	x.data = text
	for i := range x.log {
		if i <= index {
			delete(x.log, i)
		}
	}
	return api.OK
}

func (x *model) between(from, to int) []api.Entry {
	var l []api.Entry
	for i := max(from, x.meta.Index+1); i <= to; i++ {
		l = append(l, x.log[i])
	}
	return l
}

func (x *model) state() string {
	return fmt.Sprintf("role %d leader %d hard %v meta %s log %s voters %v", x.role, x.leader, api.Hard{Term: x.term, Vote: x.vote, Commit: x.commit}, metaText(x.meta), entriesText(x.between(0, x.last())), x.voters())
}

func (x *model) ready() string {
	h := api.Hard{Term: x.term, Vote: x.vote, Commit: x.commit}
	var told api.Hard
	if h != x.told {
		told = h
	}
	meta := metaText(api.Meta{})
	if x.hasSnap {
		meta = x.snapMeta
	}
	var news []api.Entry
	if x.changedFrom > 0 {
		news = x.between(x.changedFrom, x.last())
	}
	s := fmt.Sprintf("hard %v %v snap %v %s %q entries %s msgs %q commit %s reads %v", h != x.told, told, x.hasSnap, meta, x.snapContent, entriesText(news), x.queued, entriesText(x.between(x.applied+1, x.commit)), x.out.Reads)
	x.told, x.applied, x.changedFrom, x.hasSnap, x.snapContent, x.queued, x.out = h, x.commit, 0, false, "", nil, raft.Ready{}
	return s
}

// story draws what happens to one node, and holds it against the model.
type story struct {
	*rand.Rand
	r     *raft.Raft
	m     *model
	alone bool // whether it seldom hears of leaders
}

// voters draws some that rise.
func (s *story) voters(most int) []int {
	l := s.Perm(most)[:1+s.Intn(most-1)]
	slices.Sort(l)
	return l
}

func (s *story) meta(term int) api.Meta {
	return api.Meta{Index: 1 + s.Intn(s.m.last()+3), Term: s.Intn(term + 1), Voters: s.voters(5)}
}

// entries draws some behind an index and a term; most of the time terms that the log has there.
func (s *story) entries(index, term, most int) []api.Entry {
	var l []api.Entry
	for n := s.Intn(5); n > 0; n-- {
		index++
		if e, is := s.m.log[index]; is && e.Term >= term && e.Term <= most && s.Intn(4) > 0 {
			l = append(l, e)
		} else if e := data(index, term+s.Intn(most-term+1), fmt.Sprint(s.Intn(99))); s.Intn(8) == 0 {
			l = append(l, voters(index, e.Term, s.voters(5)...))
		} else {
			l = append(l, e)
		}
		term = l[len(l)-1].Term
	}
	return l
}

// msg draws a message that may be, from somebody else.
func (s *story) msg() api.Msg {
	m := api.Msg{Kind: 1 + s.Intn(5), From: s.Intn(5), To: s.m.id, Term: max(0, s.m.term+s.Intn(30)/29-s.Intn(9)/8), Seq: s.Intn(s.m.round + 2), OK: s.Intn(3) > 0, Commit: s.Intn(s.m.last() + 2), Match: s.Intn(s.m.last()+3) - 1}
	switch { // so that it leads, and leads on, now and then
	case s.alone && s.m.role == raft.Follower && s.Intn(20) > 0:
		m.Kind = api.MAppReply
	case s.m.role == raft.Candidate && s.Intn(2) == 0:
		m.Kind, m.Term = api.MVoteReply, s.m.term
	case s.m.role == raft.Leader && s.Intn(3) > 0:
		m.Kind, m.Term = api.MAppReply, s.m.term
	}
	if m.From == s.m.id {
		m.From = 5
	}
	m.Index = max(0, s.m.last()+1-s.Intn(4))
	if s.Intn(3) == 0 {
		m.Index = s.Intn(s.m.last() + 2)
	}
	if m.LogTerm = s.m.termOf(m.Index); s.Intn(6) == 0 {
		m.LogTerm = s.Intn(m.Term + 1)
	}
	if m.Kind == api.MSnap {
		m.Meta, m.Data = s.meta(m.Term), []byte(fmt.Sprint("s", s.Intn(99)))
		if e, is := s.m.log[m.Meta.Index]; is && e.Term <= m.Term && s.Intn(2) == 0 {
			m.Meta.Term = e.Term
		}
	}
	if m.Kind == api.MApp && m.LogTerm <= m.Term {
		m.Entries = s.entries(m.Index, m.LogTerm, m.Term)
	}
	return m
}

// call draws a call, and tells what both answer.
func (s *story) call() (string, string) {
	text := fmt.Sprint("d", s.Intn(999))
	switch n := s.Intn(40); {
	case n < 12:
		draw := s.Intn(40) - 20
		s.r.Tick(draw)
		s.m.tick(draw)
	case n < 30:
		m := s.msg()
		s.r.Step(m)
		s.m.step(m)
	case n < 33:
		i, term, err := s.r.Propose([]byte(text))
		j, other, want := s.m.propose(text)
		return fmt.Sprint(i, term, err), fmt.Sprint(j, other, want)
	case n == 33:
		ids := slices.Clone(s.m.voters())
		if id := s.Intn(6); slices.Contains(ids, id) {
			ids = slices.DeleteFunc(ids, func(x int) bool { return x == id })
		} else {
			ids = append(ids, id)
			slices.Sort(ids)
		}
		i, err := s.r.Change(ids...)
		j, want := s.m.change(ids)
		return fmt.Sprint("change", ids, i, err), fmt.Sprint("change", ids, j, want)
	case n == 34:
		ctx := s.Intn(9)
		return fmt.Sprint(s.r.Read(ctx)), fmt.Sprint(s.m.read(ctx))
	case n == 35:
		index := s.m.meta.Index + s.Intn(6)
		return fmt.Sprint(s.r.Compact(index, []byte(text))), fmt.Sprint(s.m.compact(index, text))
	default:
		return readyText(s.r.Ready()), s.m.ready()
	}
	return "", ""
}

// TestP1402ToP1406AgainstAModel draws calls of one node, from all kinds of beginnings on.
func TestP1402ToP1406AgainstAModel(t *testing.T) {
	led, snaps, committed := 0, 0, 0
	for seed := range int64(400) {
		d := rand.New(rand.NewSource(1400 + seed))
		s := &story{Rand: d, alone: seed%2 == 0}
		h, ids := api.Hard{Term: d.Intn(3), Vote: d.Intn(4) - 1, Commit: d.Intn(8)}, []int{0, 1, 2, 3, 4}[:1+d.Intn(5)]
		var m api.Meta
		if d.Intn(2) == 0 {
			m = api.Meta{Index: 1 + d.Intn(5), Term: d.Intn(3), Voters: s.voters(5)}
		}
		var log []api.Entry
		for i := range d.Intn(6) {
			log = append(log, data(m.Index+1+i, max(m.Term, i/2), "x"))
		}
		id := d.Intn(3)
		s.r, s.m = back(t, id, ids, h, m, log...), newModel(id, ids, h, m, "snap", log)
		for i := range 400 {
			got, want := s.call()
			if got != want {
				t.Fatalf("seed %d, step %d: answered\n%s, not\n%s", seed, i, got, want)
			}
			if got, want := stateText(s.r), s.m.state(); got != want {
				t.Fatalf("seed %d, step %d: it is\n%s, not\n%s", seed, i, got, want)
			}
			if s.m.role == raft.Leader {
				led++
				committed = max(committed, s.m.commit)
			}
			if s.m.hasSnap {
				snaps++
			}
		}
	}
	if led < 5000 || snaps < 1000 || committed < 20 {
		t.Errorf("it led %d times, took %d snapshots, committed up to %d", led, snaps, committed)
	}
}
