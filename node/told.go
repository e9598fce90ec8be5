package node

import (
	"horologe/api"
	"horologe/raft"
)

// told is what came of a node's calls and was not asked for yet.
type told struct {
	out     []api.Msg
	answers []Answer
	reads   []int
	done    []api.Entry
}

// add lays something that came behind all of its kind.
func (t *told) add(x any) {
	if m, is := x.(api.Msg); is {
		t.out = append(t.out, m)
	}
	if a, is := x.(Answer); is {
		t.answers = append(t.answers, a)
	}
	if r, is := x.(raft.Read); is {
		t.reads = append(t.reads, r.Ctx)
	}
	if e, is := x.(api.Entry); is {
		t.done = append(t.done, e)
	}
}

// taken tells a list, which is whoever asks for it's from then on.
func taken[T any](list *[]T) []T {
	l := *list
	*list = nil
	return l
}
