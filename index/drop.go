package index

import "slices"

// drop takes out the item of a key that is there.
func (x *Index) drop(key string) {
	x.root.drop(key)
	if len(x.root.items) == 0 {
		x.root = x.root.kid(0)
	}
	x.size--
}

// drop may leave n with one item too few: whoever is above it mends it.
func (n *node) drop(key string) {
	i, here := n.place(key)
	switch {
	case n.leaf():
		n.items = slices.Delete(n.items, i, i+1)
		return
	case here:
		n.items[i] = n.kids[i].takeLast()
	default:
		n.kids[i].drop(key)
	}
	n.mend(i)
}

// takeLast takes out the last item below n, and may leave n as drop does.
func (n *node) takeLast() item {
	end := len(n.items) - 1
	if n.leaf() {
		it := n.items[end]
		n.items = slices.Delete(n.items, end, end+1)
		return it
	}
	it := n.kids[end+1].takeLast()
	n.mend(end + 1)
	return it
}

// mend gives a kid that has too few items one of its neighbours', or joins it with one that can't spare any.
func (n *node) mend(i int) {
	switch {
	case len(n.kids[i].items) >= fewest:
	case i > 0 && len(n.kids[i-1].items) > fewest:
		n.shiftRight(i - 1)
	case i < len(n.items) && len(n.kids[i+1].items) > fewest:
		n.shiftLeft(i)
	case i > 0:
		n.join(i - 1)
	default:
		n.join(i)
	}
}

// shiftRight lets the last item of kid i take the place of the one between it and the next kid, which goes down to that kid's front.
func (n *node) shiftRight(i int) {
	left, right := n.kids[i], n.kids[i+1]
	end := len(left.items) - 1
	right.items = slices.Insert(right.items, 0, n.items[i])
	n.items[i] = left.items[end]
	left.items = slices.Delete(left.items, end, end+1)
	if !left.leaf() {
		right.kids = slices.Insert(right.kids, 0, left.kids[end+1])
		left.kids = slices.Delete(left.kids, end+1, end+2)
	}
}

// shiftLeft lets the first item of the kid behind kid i take the place of the one between them, which goes down to kid i's end.
func (n *node) shiftLeft(i int) {
	left, right := n.kids[i], n.kids[i+1]
	left.items = append(left.items, n.items[i])
	n.items[i] = right.items[0]
	right.items = slices.Delete(right.items, 0, 1)
	if !right.leaf() {
		left.kids = append(left.kids, right.kids[0])
		right.kids = slices.Delete(right.kids, 0, 1)
	}
}

// join makes one kid of kid i, the item behind it, and the next kid.
func (n *node) join(i int) {
	left, right := n.kids[i], n.kids[i+1]
	left.items = append(append(left.items, n.items[i]), right.items...)
	left.kids = append(left.kids, right.kids...)
	n.items = slices.Delete(n.items, i, i+1)
	n.kids = slices.Delete(n.kids, i+1, i+2)
}
