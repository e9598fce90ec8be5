package machine

import (
	"slices"

	"horologe/api"
)

func SameCmd(a, b api.Cmd) bool {
	return a.Kind == b.Kind && a.Client == b.Client && a.Seq == b.Seq && same(commandOf(a), commandOf(b))
}

// same tells whether two commands of one kind are; both are nil, if there is no such kind.
func same(a, b command) bool {
	t, is := a.(transaction)
	if !is {
		return a == b // the others have no lists
	}
	u := b.(transaction)
	return slices.Equal(t.If, u.If) && slices.Equal(t.Then, u.Then) && slices.Equal(t.Else, u.Else)
}

func SameReply(a, b api.Reply) bool {
	return a.Err == b.Err && a.Rev == b.Rev && a.Then == b.Then && a.Time == b.Time && slices.EqualFunc(a.Results, b.Results, sameResult)
}

func sameResult(a, b api.Result) bool { return a.N == b.N && slices.Equal(a.KVs, b.KVs) }
