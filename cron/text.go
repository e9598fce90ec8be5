package cron

import (
	"strconv"
	"strings"
)

// fieldText tells a field: a star, or its runs of numbers, each as long as can be.
func fieldText(field int, allowed uint64, star bool) string {
	if star {
		return "*"
	}
	b := bounds[field]
	var items []string
	for n := b.least; n <= b.most; n++ {
		if !allows(allowed, n) {
			continue
		}
		first := n
		for n < b.most && allows(allowed, n+1) {
			n++
		}
		items = append(items, itemText(first, n))
	}
	return strings.Join(items, ",")
}

func itemText(first, last int) string {
	if first == last {
		return strconv.Itoa(first)
	}
	return strconv.Itoa(first) + "-" + strconv.Itoa(last)
}
