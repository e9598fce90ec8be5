package index

import (
	"iter"
	"slices"
	"strings"
)

// How many items a node may have; the root may have fewer. Of one too many, split makes two nodes of the fewest.
const (
	fewest = 2
	most   = 2 * fewest
)

// A node has its items in order and, unless it is a leaf, one kid more than items: those ahead of, between and behind them. No node (nil) is a tree without items.
type node struct {
	items []item
	kids  []*node
}

func (n *node) leaf() bool { return len(n.kids) == 0 }

// kid tells none where n is a leaf.
func (n *node) kid(i int) *node {
	if n.leaf() {
		return nil
	}
	return n.kids[i]
}

// place tells the first item that is not ahead of the key, and whether it is the key's.
func (n *node) place(key string) (int, bool) {
	return slices.BinarySearchFunc(n.items, key, func(it item, key string) int { return strings.Compare(it.key, key) })
}

// find tells the key's item (nil: there is none); it stays there till an item is added or dropped.
func (n *node) find(key string) *item {
	for n != nil {
		i, here := n.place(key)
		if here {
			return &n.items[i]
		}
		n = n.kid(i)
	}
	return nil
}

// from goes through the items at lo and behind it, in order.
func (n *node) from(lo string) iter.Seq[*item] {
	return func(yield func(*item) bool) { n.walk(lo, yield) }
}

// walk says by a false that yield wants no more.
func (n *node) walk(lo string, yield func(*item) bool) bool {
	if n == nil {
		return true
	}
	i, _ := n.place(lo)
	for ; i < len(n.items); i++ {
		if !n.kid(i).walk(lo, yield) || !yield(&n.items[i]) {
			return false
		}
	}
	return n.kid(i).walk(lo, yield)
}
