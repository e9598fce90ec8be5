package index

import (
	"fmt"
	"math/bits"
	"math/rand"
	"slices"
	"testing"

	"horologe/api"
)

// isTree holds an index against P703's words: how many items its nodes have, their order, how deep its leaves lie; nor may spare room hold on to what was dropped.
func isTree(t *testing.T, x *Index) {
	t.Helper()
	size, height := 0, 0
	if x.root != nil {
		size, height = isNode(t, x.root, true, "", "")
	}
	if size != x.Len() || height != x.Height() || height > bits.Len(uint(size+1)) {
		t.Fatalf("%d items, %d high; Len: %d, Height: %d", size, height, x.Len(), x.Height())
	}
}

// isNode tells how many items lie at n and below, and how high it is; all lie behind lo, and ahead of hi (empty: no bound).
func isNode(t *testing.T, n *node, root bool, lo, hi string) (int, int) {
	t.Helper()
	if len(n.items) < 1 || len(n.items) > most || !root && len(n.items) < 2 {
		t.Fatalf("a node of %d items", len(n.items))
	}
	if len(n.kids) != 0 && len(n.kids) != len(n.items)+1 {
		t.Fatalf("a node of %d items and %d kids", len(n.items), len(n.kids))
	}
	isSpareEmpty(t, n)
	size, height := len(n.items), 0
	for i := range len(n.items) + 1 {
		next := hi
		if i < len(n.items) {
			next = n.items[i].key
		}
		if next != "" && lo >= next {
			t.Fatalf("%q ahead of %q", lo, next)
		}
		if len(n.kids) > 0 {
			s, h := isNode(t, n.kids[i], false, lo, next)
			if i > 0 && h != height {
				t.Fatalf("kids that are %d and %d high", height, h)
			}
			size, height = size+s, h
		}
		lo = next
	}
	return size, height + 1
}

func isSpareEmpty(t *testing.T, n *node) {
	t.Helper()
	for _, it := range n.items[len(n.items):cap(n.items)] {
		if it.key != "" || it.marks != nil {
			t.Fatalf("%q is kept behind a node's end", it.key)
		}
	}
	for _, k := range n.kids[len(n.kids):cap(n.kids)] {
		if k != nil {
			t.Fatal("a kid is kept behind a node's end")
		}
	}
}

// orders tells numbers below n, in orders of several kinds.
func orders(n int) map[string][]int {
	up, down, ends, middle := make([]int, n), make([]int, n), make([]int, n), make([]int, n)
	for i := range n {
		up[i], down[i] = i, n-1-i
		ends[i] = i / 2
		if i%2 > 0 {
			ends[i] = n - 1 - i/2
		}
	}
	for i, k := range ends {
		middle[n-1-i] = k
	}
	return map[string][]int{"rising": up, "falling": down, "from both ends": ends, "from the middle": middle, "mixed up": rand.New(rand.NewSource(int64(n))).Perm(n)}
}

func name(i int) string { return fmt.Sprintf("key %05d", i) }

// come puts keys one by one.
func come(t *testing.T, x *Index, order []int) {
	t.Helper()
	for i, k := range order {
		if err := x.Put(name(k), Mark{Rev: 1}); err != api.OK || x.Len() != i+1 {
			t.Fatalf("Put(%q): %v; Len: %d", name(k), err, x.Len())
		}
		isTree(t, x)
	}
}

// leave lets keys go, so many at a time.
func leave(t *testing.T, x *Index, order []int, atATime int) {
	t.Helper()
	for some := range slices.Chunk(order, atATime) {
		left := x.Len() - len(some)
		for _, k := range some {
			if err := x.Put(name(k), Mark{Rev: 2, Del: true}); err != api.OK {
				t.Fatalf("Put(%q) of a Del: %v", name(k), err)
			}
		}
		x.Trim(2)
		isTree(t, x)
		if x.Len() != left {
			t.Fatalf("Len: %d, not %d", x.Len(), left)
		}
		for _, k := range some {
			if x.Marks(name(k)) != nil {
				t.Fatalf("%q is not gone", name(k))
			}
		}
	}
}

func TestP703NoKeys(t *testing.T) {
	x := New()
	isTree(t, x)
	if x.Height() != 0 {
		t.Errorf("Height: %d", x.Height())
	}
	x.Put("a", Mark{Rev: 1, Del: true})
	x.Put("", Mark{Rev: 1})
	x.Put("a", Mark{})
	if x.Height() != 0 {
		t.Errorf("Height, behind Puts that were refused: %d", x.Height())
	}
}

func TestP703OneKey(t *testing.T) {
	x := New()
	come(t, x, []int{7})
	if x.Height() != 1 {
		t.Errorf("Height of one key: %d", x.Height())
	}
	leave(t, x, []int{7}, 1)
	if x.Height() != 0 {
		t.Errorf("Height behind it: %d", x.Height())
	}
	come(t, x, []int{3})
}

func TestP703KeysComeAndGoOneByOne(t *testing.T) {
	const many = 400
	for coming, order := range orders(many) {
		for going, back := range orders(many) {
			t.Run(coming+", "+going, func(t *testing.T) {
				x := New()
				come(t, x, order)
				if h := x.Height(); h < 4 {
					t.Errorf("Height: %d: too low a tree to try", h)
				}
				leave(t, x, back, 1)
				come(t, x, order)
			})
		}
	}
}

func TestP703KeysGoManyAtATime(t *testing.T) {
	const many = 1000
	for coming, order := range orders(many) {
		for going, back := range orders(many) {
			for _, atATime := range []int{7, 60, many} {
				t.Run(fmt.Sprintf("%s, %s, %d", coming, going, atATime), func(t *testing.T) {
					x := New()
					for _, k := range order {
						x.Put(name(k), Mark{Rev: 1})
					}
					isTree(t, x)
					leave(t, x, back, atATime)
				})
			}
		}
	}
}

// TestP703EachKeyOfSmallTrees lets each one key of each of the smaller trees go.
func TestP703EachKeyOfSmallTrees(t *testing.T) {
	for n := range 70 {
		for _, order := range orders(n) {
			for k := range n {
				x := New()
				for _, i := range order {
					x.Put(name(i), Mark{Rev: i + 1})
				}
				x.Put(name(k), Mark{Rev: n + 1, Del: true})
				x.Trim(n + 1)
				isTree(t, x)
				if x.Len() != n-1 || x.Marks(name(k)) != nil {
					t.Fatalf("%d keys, without %d: Len is %d", n, k, x.Len())
				}
				for i := range n {
					if i != k && !slices.Equal(x.Marks(name(i)), []Mark{{Rev: i + 1}}) {
						t.Fatalf("%d keys, without %d: %d has %v", n, k, i, x.Marks(name(i)))
					}
				}
			}
		}
	}
}

// TestP703KeysMixedUp draws what comes and what goes.
func TestP703KeysMixedUp(t *testing.T) {
	for seed := range int64(8) {
		r := rand.New(rand.NewSource(703000 + seed))
		x := New()
		there := map[string]int{}
		for step := range 3000 {
			key := name(r.Intn(500))
			grows := step/600%2 == 0
			switch {
			case there[key] == 0 && (grows || r.Intn(4) == 0):
				there[key] = step + 1
				x.Put(key, Mark{Rev: step + 1})
			case there[key] > 0 && (!grows || r.Intn(4) == 0):
				delete(there, key)
				x.Put(key, Mark{Rev: step + 1, Del: true})
				x.Trim(step + 1)
			}
			isTree(t, x)
			if x.Len() != len(there) {
				t.Fatalf("seed %d, step %d: Len: %d, not %d", seed, step, x.Len(), len(there))
			}
		}
		for key, rev := range there {
			if !slices.Equal(x.Marks(key), []Mark{{Rev: rev}}) {
				t.Fatalf("seed %d: Marks(%q): %v", seed, key, x.Marks(key))
			}
		}
	}
}

// TestTrimLetsGoOfMemory: forgotten marks are not kept in front of those that stay.
func TestTrimLetsGoOfMemory(t *testing.T) {
	x := New()
	for i := range 1000 {
		x.Put("a", Mark{Rev: i + 1})
	}
	x.Trim(999)
	if l := x.root.find("a").marks; len(l) != 2 || cap(l) > 8 {
		t.Errorf("%d marks, with room for %d", len(l), cap(l))
	}
}
