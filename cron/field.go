package cron

// The fields, as they stand in an expression.
const (
	minutes = iota
	hours
	days
	months
	weekdays
	fields
)

// A bound is the least and the greatest number of a field.
type bound struct {
	least, most int
}

var bounds = [fields]bound{
	minutes:  {0, 59},
	hours:    {0, 23},
	days:     {1, 31},
	months:   {1, 12},
	weekdays: {0, 6},
}

// all is a field that allows each of its numbers.
func all(field int) uint64 {
	b := bounds[field]
	return run(b.least, b.most)
}

// run is a field that allows the numbers from one to another, below 63.
func run(first, last int) uint64 {
	return 1<<(last+1) - 1<<first
}

func allows(field uint64, n int) bool { return field>>n&1 == 1 }
