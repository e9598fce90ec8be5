package cron

import (
	"math/bits"

	"horologe/api"
	"horologe/cal"
)

const (
	dayHours    = 24
	hourMinutes = 60
	dayMinutes  = dayHours * hourMinutes
)

// A hop tells how many minutes to go on from a date, over none that matches; 0: it matches.
type hop func(d api.Date) int

func next(after int, on hop) (int, api.Errno) {
	if _, err := cal.Of(after); err != api.OK {
		return 0, api.ErrArg
	}
	return seek(after+1, after+1, after+api.Horizon, on)
}

func prev(upto, after int, back hop) (int, api.Errno) {
	if _, err := cal.Of(upto); err != api.OK || after >= upto {
		return 0, api.ErrArg
	}
	return seek(upto, max(after+1, upto-api.Horizon), upto, back)
}

// seek hops from a minute to one that matches, as long as it stays within the bounds, and among the dates.
func seek(from, least, most int, on hop) (int, api.Errno) {
	for minute := from; minute >= least && minute <= most; {
		d, err := cal.Of(minute)
		if err != api.OK {
			break
		}
		step := on(d)
		if step == 0 {
			return minute, api.OK
		}
		minute += step
	}
	return 0, api.ErrNever
}

// later is the hop to the end of what can't match: of the month, the day, some hours or some minutes.
func (e Expr) later(d api.Date) int {
	rest := dayMinutes - d.Hour*hourMinutes - d.Minute
	if !allows(e.Month, d.Month) {
		return (cal.Days(d.Year, d.Month)-d.Day)*dayMinutes + rest
	}
	if !e.allowsDay(d) {
		return rest
	}
	if n := lackFrom(e.Hour, d.Hour, dayHours); n > 0 {
		return n*hourMinutes - d.Minute
	}
	return lackFrom(e.Minute, d.Minute, hourMinutes)
}

// earlier is the hop, back, to what stands ahead of what can't match.
func (e Expr) earlier(d api.Date) int {
	gone := d.Hour*hourMinutes + d.Minute + 1
	if !allows(e.Month, d.Month) {
		return -(d.Day-1)*dayMinutes - gone
	}
	if !e.allowsDay(d) {
		return -gone
	}
	if n := lackDownFrom(e.Hour, d.Hour); n > 0 {
		return -(n-1)*hourMinutes - d.Minute - 1
	}
	return -lackDownFrom(e.Minute, d.Minute)
}

// lackFrom counts the numbers from n on, below end, that a field lacks ahead of one that it allows.
func lackFrom(field uint64, n, end int) int {
	return min(bits.TrailingZeros64(field>>n), end-n)
}

// lackDownFrom counts those from n down to 0.
func lackDownFrom(field uint64, n int) int {
	return min(bits.LeadingZeros64(field<<(63-n)), n+1)
}
