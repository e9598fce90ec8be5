package machine

import (
	"maps"
	"slices"

	"horologe/api"
)

// scene is the keys that are there at some moment of a machine's past.
type scene struct {
	keys  []string // rising
	kvs   map[string]api.KV
	users map[int]int // of each lease that keys have: how many have it
}

// newScene makes one of keys that rise.
func newScene(kvs []api.KV) *scene {
	s := &scene{kvs: map[string]api.KV{}, users: map[int]int{}}
	for _, kv := range kvs {
		s.put(kv)
	}
	return s
}

func (s *scene) clone() *scene {
	return &scene{keys: slices.Clone(s.keys), kvs: maps.Clone(s.kvs), users: maps.Clone(s.users)}
}

// do lets a change happen; what is deleted is there.
func (s *scene) do(e api.Event) {
	if e.Del {
		s.drop(e.KV.Key)
	} else {
		s.put(e.KV)
	}
}

func (s *scene) put(kv api.KV) {
	at, there := slices.BinarySearch(s.keys, kv.Key)
	if there {
		s.use(s.kvs[kv.Key].Lease, -1)
	} else {
		s.keys = slices.Insert(s.keys, at, kv.Key)
	}
	s.kvs[kv.Key] = kv
	s.use(kv.Lease, 1)
}

func (s *scene) drop(key string) {
	at, _ := slices.BinarySearch(s.keys, key)
	s.keys = slices.Delete(s.keys, at, at+1)
	s.use(s.kvs[key].Lease, -1)
	delete(s.kvs, key)
}

// use counts n more keys of a lease.
func (s *scene) use(id, n int) {
	if id == 0 {
		return
	}
	if s.users[id] += n; s.users[id] == 0 {
		delete(s.users, id)
	}
}

// tells says whether an operation that changes nothing can be answered so: by the first keys of some range, one at least, if there are any.
func (s *scene) tells(r api.Result) bool {
	if len(r.KVs) == 0 {
		return r.N == 0
	}
	first, _ := slices.BinarySearch(s.keys, r.KVs[0].Key)
	if r.N < len(r.KVs) || r.N > len(s.keys)-first {
		return false
	}
	for i, kv := range r.KVs {
		if s.kvs[s.keys[first+i]] != kv {
			return false
		}
	}
	return true
}

// answers says whether a command that changes nothing can be answered so.
func (s *scene) answers(l limits, r api.Reply) bool {
	if r.Err == api.ErrFull {
		return l.lacksRoom(len(s.keys))
	}
	return !slices.ContainsFunc(r.Results, func(x api.Result) bool { return !s.tells(x) })
}
