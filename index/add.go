package index

import "slices"

// add takes in an item whose key is not there.
func (x *Index) add(it item) {
	if x.root == nil {
		x.root = &node{}
	}
	x.root.add(it)
	if len(x.root.items) > most {
		x.root = &node{kids: []*node{x.root}}
		x.root.split(0)
	}
	x.size++
}

// add may leave n with one item too many: whoever is above it splits it.
func (n *node) add(it item) {
	i, _ := n.place(it.key)
	if n.leaf() {
		n.items = slices.Insert(n.items, i, it)
		return
	}
	n.kids[i].add(it)
	if len(n.kids[i].items) > most {
		n.split(i)
	}
}

// split makes two kids of one; the item in the middle comes up between them.
func (n *node) split(i int) {
	left, right := n.kids[i], &node{}
	middle := len(left.items) / 2
	up := left.items[middle]
	right.items = fresh(left.items[middle+1:])
	left.items = slices.Delete(left.items, middle, len(left.items))
	if !left.leaf() {
		right.kids = fresh(left.kids[middle+1:])
		left.kids = slices.Delete(left.kids, middle+1, len(left.kids))
	}
	n.items = slices.Insert(n.items, i, up)
	n.kids = slices.Insert(n.kids, i+1, right)
}
