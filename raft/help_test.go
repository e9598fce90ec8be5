package raft_test

import (
	"fmt"
	"slices"
	"strings"
	"testing"

	"horologe/api"
	"horologe/raft"
)

// none is the hard state of a node that begins anew.
var none = api.Hard{Vote: -1}

// begun is a node that begins anew.
func begun(t *testing.T, id int, voters ...int) *raft.Raft {
	t.Helper()
	return back(t, id, voters, none, api.Meta{})
}

// back is a node that comes back with what it saved.
func back(t *testing.T, id int, voters []int, h api.Hard, m api.Meta, log ...api.Entry) *raft.Raft {
	t.Helper()
	r, err := raft.New(id, voters, h, m, []byte("snap"), log)
	if err != api.OK || r == nil {
		t.Fatalf("New: %v", err)
	}
	return r
}

// leader is node 1, which leads in the term behind h's, and whose Ready was asked: its EEmpty is committed, if it is told to be.
func leader(t *testing.T, committed bool, voters ...int) *raft.Raft {
	t.Helper()
	r := begun(t, 1, voters...)
	elect(t, r)
	if committed {
		commits(t, r, 1)
	}
	r.Ready()
	return r
}

// elect lets a node that has waited for nobody yet lead.
func elect(t *testing.T, r *raft.Raft) {
	t.Helper()
	ticks(r, 0, 40)
	term := r.Hard().Term
	for _, id := range r.Voters() {
		r.Step(api.Msg{Kind: api.MVoteReply, From: id, To: 1, Term: term, OK: true})
	}
	if r.Role() != raft.Leader {
		t.Fatal("it does not lead")
	}
}

// commits lets voters say that they have the log up to index, till that is committed.
func commits(t *testing.T, r *raft.Raft, index int) {
	t.Helper()
	for _, id := range r.Voters() {
		if r.Hard().Commit < index {
			r.Step(api.Msg{Kind: api.MAppReply, From: id, To: 1, Term: r.Hard().Term, OK: true, Match: index})
		}
	}
	if r.Hard().Commit != index {
		t.Fatalf("committed up to %d, not %d", r.Hard().Commit, index)
	}
}

// ticks lets a node tick till it stands or leads, n times at most; it tells how often.
func ticks(r *raft.Raft, draw, n int) int {
	term := r.Hard().Term
	for i := range n {
		if r.Tick(draw); r.Hard().Term > term {
			return i + 1
		}
	}
	return n
}

// data is an entry of bytes; lead, voters are those of a leader, of who votes.
func data(index, term int, text string) api.Entry {
	return api.Entry{Index: index, Term: term, Data: []byte(text)}
}

func lead(index, term int) api.Entry { return api.Entry{Index: index, Term: term, Kind: api.EEmpty} }

func voters(index, term int, ids ...int) api.Entry {
	return api.Entry{Index: index, Term: term, Kind: api.EVoters, Data: votersData(ids...)}
}

func votersData(ids ...int) []byte {
	b := []byte{byte(len(ids))}
	for _, id := range ids {
		b = append(b, 0, 0, 0, 0, byte(id>>24), byte(id>>16), byte(id>>8), byte(id))
	}
	return b
}

// many are n entries behind an index, all of one term.
func many(index, term, n int) []api.Entry {
	var l []api.Entry
	for i := range n {
		l = append(l, data(index+1+i, term, fmt.Sprint(index+1+i)))
	}
	return l
}

func entryText(e api.Entry) string {
	return fmt.Sprintf("%d/%d.%d%q", e.Index, e.Term, e.Kind, e.Data)
}

func entriesText(l []api.Entry) string {
	var parts []string
	for _, e := range l {
		parts = append(parts, entryText(e))
	}
	return strings.Join(parts, " ")
}

func metaText(m api.Meta) string { return fmt.Sprintf("%d/%d%v", m.Index, m.Term, m.Voters) }

// msgText tells all that is not zero of a message.
func msgText(m api.Msg) string {
	kind := map[int]string{api.MVote: "vote", api.MVoteReply: "voted", api.MApp: "app", api.MAppReply: "apped", api.MSnap: "snap"}[m.Kind]
	s := fmt.Sprintf("%s %d>%d t%d", kind, m.From, m.To, m.Term)
	for _, f := range []struct {
		name string
		n    int
	}{{"i", m.Index}, {"l", m.LogTerm}, {"c", m.Commit}, {"s", m.Seq}, {"m", m.Match}} {
		if f.n != 0 {
			s += fmt.Sprintf(" %s%d", f.name, f.n)
		}
	}
	if m.OK {
		s += " ok"
	}
	if len(m.Entries) > 0 {
		s += " [" + entriesText(m.Entries) + "]"
	}
	if m.Meta.Index != 0 || m.Meta.Term != 0 || len(m.Meta.Voters) > 0 || len(m.Data) > 0 {
		s += fmt.Sprintf(" {%s %q}", metaText(m.Meta), m.Data)
	}
	return s
}

func msgsText(l []api.Msg) []string {
	var out []string
	for _, m := range l {
		out = append(out, msgText(m))
	}
	return out
}

// readyText tells all of a Ready.
func readyText(x raft.Ready) string {
	return fmt.Sprintf("hard %v %v snap %v %s %q entries %s msgs %q commit %s reads %v", x.HasHard, x.Hard, x.HasSnap, metaText(x.Meta), x.Data, entriesText(x.Entries), msgsText(x.Msgs), entriesText(x.Commit), x.Reads)
}

// stateText tells all that a node shows, but Ready.
func stateText(r *raft.Raft) string {
	return fmt.Sprintf("role %d leader %d hard %v meta %s log %s voters %v", r.Role(), r.Leader(), r.Hard(), metaText(r.Meta()), entriesText(r.Log()), r.Voters())
}

// sends asks Ready, and holds its messages against what they must be.
func sends(t *testing.T, r *raft.Raft, want ...string) raft.Ready {
	t.Helper()
	x := r.Ready()
	if got := msgsText(x.Msgs); !slices.Equal(got, want) {
		t.Errorf("it sends\n%q, not\n%q", got, want)
	}
	return x
}

// isHard holds term, vote and commit against what they must be.
func isHard(t *testing.T, r *raft.Raft, term, vote, commit int) {
	t.Helper()
	if want := (api.Hard{Term: term, Vote: vote, Commit: commit}); r.Hard() != want {
		t.Errorf("%+v, not %+v", r.Hard(), want)
	}
}

// isRole holds role and leader against what they must be.
func isRole(t *testing.T, r *raft.Raft, role, leader int) {
	t.Helper()
	if r.Role() != role || r.Leader() != leader {
		t.Errorf("role %d, leader %d, not %d, %d", r.Role(), r.Leader(), role, leader)
	}
}

func isLog(t *testing.T, r *raft.Raft, want ...api.Entry) {
	t.Helper()
	if got := entriesText(r.Log()); got != entriesText(want) {
		t.Errorf("the log is %s, not %s", got, entriesText(want))
	}
}
