package index_test

import (
	"maps"
	"math/bits"
	"slices"
	"testing"

	"horologe/api"
	"horologe/index"
)

// model is an index as plain as can be: its keys' marks, in a map.
type model map[string][]index.Mark

func (m model) put(key string, mark index.Mark) api.Errno {
	if key == "" || len(key) > 100 || mark.Rev <= 0 {
		return api.ErrArg
	}
	l := m[key]
	if len(l) > 0 && l[len(l)-1].Rev >= mark.Rev {
		return api.ErrGap
	}
	if mark.Del && (len(l) == 0 || l[len(l)-1].Del) {
		return api.ErrNone
	}
	m[key] = append(slices.Clone(l), mark)
	return api.OK
}

func (m model) keys(lo, hi string) []string {
	var l []string
	for key := range m {
		if key >= lo && (hi == "" || key < hi) {
			l = append(l, key)
		}
	}
	slices.Sort(l)
	return l
}

func (m model) trim(rev int) {
	for key, l := range maps.Clone(m) {
		if l = trimmed(l, rev); len(l) == 0 {
			delete(m, key)
		} else {
			m[key] = l
		}
	}
}

// trimmed goes by the chapter's words, mark by mark from the end.
func trimmed(l []index.Mark, rev int) []index.Mark {
	for i := len(l) - 1; i >= 0; i-- {
		if l[i].Rev > rev {
			continue
		}
		if l[i].Del {
			return l[i+1:]
		}
		return l[i:]
	}
	return l
}

// isAs holds all that an index tells against the model.
func isAs(t *testing.T, x *index.Index, m model) {
	t.Helper()
	if got := x.Len(); got != len(m) {
		t.Fatalf("Len: %d, not %d", got, len(m))
	}
	if got, want := x.Keys("", ""), m.keys("", ""); !slices.Equal(got, want) {
		t.Fatalf("Keys: %q, not %q", got, want)
	}
	for key, want := range m {
		if got := x.Marks(key); !slices.Equal(got, want) {
			t.Fatalf("Marks(%q): %v, not %v", key, got, want)
		}
	}
	if h := x.Height(); h > bits.Len(uint(len(m)+1)) || (h == 0) != (len(m) == 0) {
		t.Fatalf("Height: %d, of %d keys", h, len(m))
	}
}

// of makes an index of marks that are all taken, and its model.
func of(t *testing.T, all model) (*index.Index, model) {
	t.Helper()
	x, m := index.New(), model{}
	for key, l := range all {
		for _, mark := range l {
			if err := x.Put(key, mark); err != api.OK {
				t.Fatalf("Put(%q, %v): %v", key, mark, err)
			}
			if err := m.put(key, mark); err != api.OK {
				t.Fatalf("the model's put(%q, %v): %v", key, mark, err)
			}
		}
	}
	return x, m
}

// put and del make marks, to write tables by.
func put(rev int) index.Mark { return index.Mark{Rev: rev} }
func del(rev int) index.Mark { return index.Mark{Rev: rev, Del: true} }
