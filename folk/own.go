package folk

import (
	"strings"

	"horologe/api"
)

// ownRow and those below it make the same anew, in memory that nothing else has.
func ownRow(r Row) Row {
	r.Reply = ownReply(r.Reply)
	return r
}

func ownReply(r api.Reply) api.Reply {
	r.Results = ownList(r.Results, ownResult)
	return r
}

func ownResult(r api.Result) api.Result {
	r.KVs = ownList(r.KVs, ownKV)
	return r
}

// ownKV copies the texts too: one may be a piece of a long text, which would be kept with it.
func ownKV(kv api.KV) api.KV {
	kv.Key, kv.Value = strings.Clone(kv.Key), strings.Clone(kv.Value)
	return kv
}

func ownList[T any](l []T, own func(T) T) []T {
	if len(l) == 0 {
		return nil
	}
	made := make([]T, len(l))
	for i, x := range l {
		made[i] = own(x)
	}
	return made
}
