package index

import (
	"cmp"
	"slices"
)

// An item is a key that has marks.
type item struct {
	key   string
	marks []Mark
}

// last tells the last mark; a key without marks is as one that went ahead of all revisions.
func (it *item) last() Mark {
	if it == nil {
		return Mark{Rev: 0, Del: true}
	}
	return it.marks[len(it.marks)-1]
}

// needed tells the marks by which a key can be seen at rev and behind it.
func needed(marks []Mark, rev int) []Mark {
	at, found := slices.BinarySearchFunc(marks, rev, func(m Mark, rev int) int { return cmp.Compare(m.Rev, rev) })
	if !found {
		at-- // to the last one ahead of rev
	}
	if at >= 0 && marks[at].Del {
		at++
	}
	if at <= 0 {
		return marks
	}
	return fresh(marks[at:]) // a piece would keep the memory of what is forgotten
}

// fresh tells a copy, without spare room.
func fresh[T any](list []T) []T {
	c := make([]T, len(list))
	copy(c, list)
	return c
}
