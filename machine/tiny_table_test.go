package machine

import (
	"cmp"
	"fmt"
	"slices"
	"strings"
	"testing"

	"horologe/api"
)

// TestP1203TinyPasts: of machines whose transactions have few operations; bases and replies are written as results are, "3 1 0" is a reply at 3.
func TestP1203TinyPasts(t *testing.T) {
	for _, c := range []struct {
		ops, rev int
		base     string
		replies  []string
		want     bool
	}{
		// what went by one operation each, and what a revision did to keys that are not told of
		{1, 3, "b.2.3.2", []string{"1 1:d.1.1.1", "3 1"}, false}, {1, 3, "b.1.3.2", []string{"2 1:d.2.2.1"}, false}, {1, 3, "b.1.1.1,i.3.3.1", []string{"2 1:d.2.2.1"}, false}, {1, 3, "b.3.3.1,d.2.2.1", []string{"1 1:g.1.1.1"}, false}, {1, 3, "b.1.1.1", []string{"2 1:d.2.2.1"}, true}, {1, 3, "b.1.1.1", []string{"2 1:d.2.2.1", "3 1"}, true},
		{1, 3, "", []string{"2 1:d.1.1.1", "3 1"}, false}, {1, 3, "", []string{"2 1:d.1.1.1", "3 2"}, true}, {1, 3, "", []string{"2 1:f.2.2.1", "3 1"}, false}, {1, 3, "", []string{"2 1:f.2.2.1", "3 2"}, true}, {1, 4, "b.3.3.1", []string{"2 1:f.1.1.1", "4 1"}, false}, {1, 4, "b.3.3.1", []string{"2 1:f.1.1.1", "4 2"}, true}, {1, 4, "d.3.3.1", []string{"3 2:d.3.3.1,f.2.2.1", "4 1"}, false}, {1, 4, "b.3.3.1", []string{"2 2:d.1.1.1,f.2.2.1", "4 1"}, false}, {1, 4, "b.3.3.1", []string{"2 2:d.1.1.1,f.2.2.1", "4 2"}, true}, {1, 4, "d.4.4.1", []string{"2 2:b.2.2.1,d.1.1.1", "3 1"}, false}, {1, 4, "d.4.4.1", []string{"2 2:b.2.2.1,d.1.1.1", "3 2"}, true}, {1, 5, "f.5.5.1,i.4.4.1", []string{"2 1:d.2.2.1", "3 1"}, false}, {1, 5, "f.5.5.1,i.4.4.1", []string{"2 1:d.2.2.1", "3 2"}, true}, {1, 4, "c.2.2.1,d.3.4.2", []string{"3 1:b.1.1.1"}, false}, {1, 4, "b.2.4.3", []string{"1 1:f.1.1.1", "3 1"}, false}, {1, 4, "b.3.4.2,c.1.1.1", []string{"2 1:d.2.2.1", "4 1"}, false},
		// puts of a key by one revision or another one, which transactions need
		{1, 4, "f.1.4.3", []string{"2 1", "4 1"}, false}, {1, 4, "f.1.4.4", []string{"2 1", "4 1"}, true}, {1, 4, "f.1.4.3", []string{"4 1"}, false}, {1, 4, "b.1.4.3", []string{"3 1", "4 1"}, false}, {1, 5, "d.1.5.4", []string{"5 1"}, false}, {1, 5, "d.1.5.3", []string{"5 1"}, true}, {1, 5, "f.1.5.3", []string{"1 1:f.1.1.1", "2 1", "3 1", "5 1"}, false}, {1, 5, "f.1.5.5", []string{"1 1:f.1.1.1", "2 1", "3 1", "5 1"}, true}, {1, 5, "b.1.5.3", []string{"2 1", "3 1", "5 1"}, false}, {1, 6, "b.1.1.1,d.2.6.3", []string{"3 1", "4 1", "6 1"}, false}, {1, 6, "f.1.5.4", []string{"2 1:f.1.2.2", "3 1", "4 1", "5 1"}, false}, {1, 6, "f.1.5.5", []string{"2 1:f.1.2.2", "3 1", "4 1", "5 1"}, false}, {1, 7, "f.1.5.5", []string{"2 1:f.1.2.2", "3 1", "4 1", "5 1"}, true}, {1, 7, "f.1.5.4", []string{"2 1:f.1.2.2", "3 1", "4 1", "5 1"}, false}, {1, 9, "f.1.5.3", []string{"2 1", "3 1", "5 1"}, false},
		// what is deleted is not there any more
		{1, 5, "b.3.3.1", []string{"3 1:d.2.2.1", "4 2"}, false}, {1, 5, "", []string{"3 1", "4 2"}, false}, {1, 6, "", []string{"3 1", "4 2"}, true}, {1, 4, "", []string{"2 2:c.1.1.1,d.2.2.1", "3 2"}, false}, {1, 5, "", []string{"2 2:c.1.1.1,d.2.2.1", "3 2"}, true}, {2, 3, "d.3.3.1", []string{"2 2", "3 0 1"}, false}, {2, 3, "d.3.3.1", []string{"2 2 0", "3 0 1"}, true}, {2, 3, "", []string{"2 2"}, false}, {2, 3, "d.3.3.1", []string{"2 2"}, true}, {2, 3, "f.2.2.1", []string{"2 0 2", "3 1 0"}, false}, {2, 3, "", []string{"2 2:h.1.1.1", "2 2 0"}, false}, {2, 3, "", []string{"1 1:f.1.1.1", "2 2", "3 1 0"}, false}, {2, 3, "", []string{"1 1:f.1.1.1", "2 2"}, false}, {2, 3, "", []string{"1 1:f.1.1.1", "2 1"}, true}, {2, 3, "b.2.3.2", []string{"1 1:f.1.1.1", "2 2:b.2.2.1", "2 0 2"}, false}, {2, 3, "b.2.3.2", []string{"1 1:f.1.1.1", "2 2:b.2.2.1", "2 0 1"}, true},
		// how many keys there were, and that they went
		{2, 3, "b.1.1.1,d.3.3.1", []string{"2 0 2"}, false}, {2, 3, "b.1.1.1,d.3.3.1", []string{"2 0 1"}, true}, {2, 3, "d.1.3.3,f.1.1.1", []string{"2 3:d.1.2.2,f.1.1.1", "2 1"}, false}, {2, 3, "d.1.3.3,f.1.1.1", []string{"2 3:d.1.2.2,f.1.1.1", "2 1 0"}, true}, {2, 3, "b.2.3.2,d.1.1.1,f.1.3.2", []string{"2 1 0"}, false}, {2, 3, "b.2.3.2,d.1.1.1,f.1.3.3", []string{"2 1 0"}, true}, {2, 3, "a.2.2.1,b.2.2.1,d.1.1.1", []string{"3 2"}, false}, {2, 3, "a.2.2.1,b.2.2.1,d.1.1.1", []string{"3 1"}, true}, {2, 3, "", []string{"2 1", "3 2 1"}, false}, {2, 3, "", []string{"2 1", "3 2"}, true}, {2, 3, "b.2.2.1,d.3.3.1,f.3.3.1", []string{"2 2:b.2.2.1"}, false}, {2, 3, "b.2.2.1,d.3.3.1", []string{"2 2:b.2.2.1"}, true}, {2, 2, "d.2.2.1,h.2.2.1", []string{"1 1:b.1.1.1"}, false}, {2, 2, "d.2.2.1", []string{"1 1:b.1.1.1"}, true}, {2, 3, "b.1.3.3", []string{"2 2:e.2.2.1", "3 1 1"}, false}, {2, 3, "b.1.3.3", []string{"2 2:e.2.2.1", "3 1 2"}, true}, {2, 3, "b.3.3.1,f.3.3.1", []string{"2 2:f.1.1.1 1"}, false}, {2, 3, "b.3.3.1,f.3.3.1", []string{"2 2:f.1.1.1 2"}, true},
		// what lay beside what
		{2, 3, "b.1.1.1,f.1.1.1", []string{"2 3:b.1.1.1,d.2.2.1,f.1.1.1", "3 2 1:f.1.1.1"}, false}, {2, 3, "b.1.1.1,f.1.1.1", []string{"2 3:b.1.1.1,d.2.2.1,f.1.1.1", "3 1 1:f.1.1.1"}, true}, {2, 3, "d.1.1.1", []string{"1 1:b.1.1.1 0", "2 0 1:f.2.2.1", "3 2 0"}, false}, {2, 3, "d.1.1.1", []string{"1 1:b.1.1.1 0", "2 0 1:f.2.2.1", "3 1 1"}, true}, {2, 3, "d.1.1.1", []string{"1 1:b.1.1.1 0", "2 0 1:f.2.2.1", "3 1 0"}, true}, {1, 4, "f.3.3.1", []string{"2 1:b.1.1.1", "3 2:f.3.3.1"}, false}, {1, 4, "a.3.3.1", []string{"2 1:b.1.1.1", "3 2:a.3.3.1"}, true}, {1, 4, "f.2.2.1", []string{"3 3:d.1.1.1,f.2.2.1"}, false}, {2, 4, "b.4.4.1,e.2.2.1", []string{"3 3:d.1.1.1,e.2.2.1"}, false}, {2, 4, "b.4.4.1,e.2.2.1", []string{"3 2:d.1.1.1,e.2.2.1"}, true},
		// by which operation a key was put
		{3, 2, "b.1.2.2,d.2.2.1", []string{"2 1 2:b.1.2.2 0"}, false}, {3, 2, "b.1.2.2,d.2.2.1", []string{"2 1 0 2:b.1.2.2"}, true}, {3, 2, "b.1.2.2,d.1.1.1,f.2.2.1", []string{"2 3:b.1.1.1,d.1.1.1 0 1"}, false}, {3, 4, "a.1.4.3,c.3.3.1,d.3.3.1,e.3.3.1", []string{"2 2"}, false}, {3, 4, "a.1.4.3,c.3.3.1,d.3.3.1,e.3.3.1", []string{"2 2 1"}, true}, {3, 4, "a.1.4.3,c.3.3.1,d.3.3.1", []string{"2 2"}, true},
		// revisions that had nothing to do
		{2, 3, "b.2.2.1,d.2.3.2", []string{"3 0 1"}, false}, {2, 3, "b.2.2.1,d.2.3.2", []string{"3 1 1"}, true}, {2, 3, "a.3.3.1,b.1.3.2,f.1.1.1", []string{"3 0 1"}, false}, {2, 3, "a.1.1.1", []string{"2 1:b.1.1.1", "3 1"}, false}, {2, 3, "a.1.1.1", []string{"2 1:b.1.1.1", "3 2"}, true}, {2, 3, "b.2.2.1", []string{"2 1:d.2.2.1 0", "3 1 0"}, false}, {2, 3, "b.2.2.1", []string{"2 1:d.2.2.1 0", "3 1 1"}, true},
	} {
		base := told("0:" + c.base)[0].KVs
		var replies []api.Reply
		for _, text := range c.replies {
			at, results, _ := strings.Cut(text, " ")
			r := api.Reply{Results: told(results)}
			fmt.Sscan(at, &r.Rev)
			replies = append(replies, r)
		}
		slices.SortStableFunc(replies, func(a, b api.Reply) int { return cmp.Compare(a.Rev, b.Rev) })
		if got := couldBeCompacted(limits{c.ops, 4096}, c.rev, 0, base, replies); got != c.want {
			t.Errorf("%d operations, at %d: %s, %q: %v", c.ops, c.rev, c.base, c.replies, got)
		}
	}
}
