package cal_test

import (
	"math"
	"math/rand"
	"testing"
	"time"

	"horologe/api"
	"horologe/cal"
)

const (
	dayMinutes = 1440
	allDays    = 3652059
)

// lengths: the days of months; a year's February may have one more.
var lengths = [13]int{0, 31, 28, 31, 30, 31, 30, 31, 31, 30, 31, 30, 31}

// length tells the days of a month, by a rule that is not cal's own.
func length(year, month int) int {
	if month == 2 && year%4 == 0 && (year%25 != 0 || year%16 == 0) {
		return 29
	}
	return lengths[month]
}

// next tells the date a minute later.
func next(d api.Date) api.Date {
	d.Minute++
	if d.Minute < 60 {
		return d
	}
	d.Minute = 0
	d.Hour++
	if d.Hour < 24 {
		return d
	}
	d.Hour = 0
	return tomorrow(d)
}

// tomorrow tells the date a day later.
func tomorrow(d api.Date) api.Date {
	d.Weekday++
	if d.Weekday == 7 {
		d.Weekday = 0
	}
	d.Day++
	if d.Day > length(d.Year, d.Month) {
		d.Day = 1
		d.Month++
	}
	if d.Month > 12 {
		d.Month = 1
		d.Year++
	}
	return d
}

// there asks for a minute's date, and that Minute leads back. It is asked millions of times: t is called upon only where it fails.
func there(t *testing.T, minute int, want api.Date) {
	d, err := cal.Of(minute)
	n, back := cal.Minute(want)
	if d != want || err != api.OK || n != minute || back != api.OK {
		t.Helper()
		has(t, minute, want)
		t.FailNow()
	}
}

// Every day of every year from 1 to 9999: its first minute, its last one, and one between.
func TestP503AllDaysOneBehindTheOther(t *testing.T) {
	d := date(1, 1, 1, 0, 0, 1)
	for day := range allDays {
		minute := first + day*dayMinutes
		there(t, minute, d)
		end := d
		end.Hour, end.Minute = 23, 59
		there(t, minute+dayMinutes-1, end)
		between := day % dayMinutes
		some := d
		some.Hour, some.Minute = between/60, between%60
		there(t, minute+between, some)
		d = tomorrow(d)
	}
	if want := date(10000, 1, 1, 0, 0, 6); d != want {
		t.Fatalf("behind all days: %+v", d)
	}
	hasNone(t, first+allDays*dayMinutes)
	isNone(t, d)
}

// Minute by minute, around where something ends.
func TestP503MinutesOneBehindTheOther(t *testing.T) {
	for _, at := range []api.Date{
		date(1, 1, 2, 0, 0, 0), date(4, 2, 29, 0, 0, 0), date(100, 2, 28, 0, 0, 0), date(400, 12, 31, 0, 0, 0), date(1582, 10, 10, 0, 0, 0),
		date(1899, 12, 31, 0, 0, 0), date(1900, 2, 28, 0, 0, 0), date(1969, 12, 31, 0, 0, 0), date(1999, 12, 31, 0, 0, 0), date(2000, 2, 29, 0, 0, 0), date(2000, 12, 31, 0, 0, 0),
		date(2023, 2, 28, 0, 0, 0), date(2024, 2, 29, 0, 0, 0), date(2100, 2, 28, 0, 0, 0), date(9999, 12, 30, 0, 0, 0),
	} {
		middle, err := cal.Minute(at)
		if err != api.OK {
			t.Fatalf("Minute(%+v): %v", at, err)
		}
		from, end := middle-dayMinutes, middle+2*dayMinutes
		d, err := cal.Of(from)
		if err != api.OK {
			t.Fatalf("Of(%d): %v", from, err)
		}
		for minute := from; minute < end; minute++ {
			there(t, minute, d)
			d = next(d)
		}
	}
}

// Drawn minutes, and the ones behind them, as the model counts on.
func TestP503DrawnMinutes(t *testing.T) {
	draw := rand.New(rand.NewSource(5))
	for range 300000 {
		minute := first + draw.Intn(last-first)
		d, err := cal.Of(minute)
		if err != api.OK {
			t.Fatalf("Of(%d): %v", minute, err)
		}
		there(t, minute, d)
		there(t, minute+1, next(d))
	}
}

// The library's dates are proleptic Gregorian ones, too.
func TestP502AsTheLibraryHasThem(t *testing.T) {
	draw := rand.New(rand.NewSource(6))
	for range 300000 {
		minute := first + draw.Intn(last-first+1)
		x := time.Unix(int64(minute)*60, 0).UTC()
		there(t, minute, date(x.Year(), int(x.Month()), x.Day(), x.Hour(), x.Minute(), int(x.Weekday())))
	}
}

// Dates that are drawn around their bounds: refused, or, where the library leaves them as they are, its minute.
func TestP502DrawnDates(t *testing.T) {
	draw := rand.New(rand.NewSource(7))
	near := func(most int) int {
		switch draw.Intn(8) {
		case 0:
			return draw.Intn(3) - 1
		case 1:
			return most - 1 + draw.Intn(3)
		}
		return draw.Intn(most + 1)
	}
	refused := 0
	for range 300000 {
		d := date(near(9999), near(12), near(31), near(23), near(59), near(7))
		x := time.Date(d.Year, time.Month(d.Month), d.Day, d.Hour, d.Minute, 0, 0, time.UTC)
		same := x.Year() == d.Year && int(x.Month()) == d.Month && x.Day() == d.Day && x.Hour() == d.Hour && x.Minute() == d.Minute
		if !same || d.Year < 1 || d.Year > 9999 {
			isNone(t, d)
			refused++
		} else if n, err := cal.Minute(d); int64(n)*60 != x.Unix() || err != api.OK {
			t.Errorf("Minute(%+v): %d, %v, not %d", d, n, err, x.Unix()/60)
		}
		if t.Failed() {
			return
		}
	}
	if refused < 30000 || refused > 270000 {
		t.Errorf("%d of 300000 were refused: too few, or too many, to tell", refused)
	}
}

// P1: whatever numbers, each call ends, and a number that has no date is refused.
func TestP1WhateverNumbers(t *testing.T) {
	draw := rand.New(rand.NewSource(8))
	some := func() int {
		n := int(draw.Uint64()) >> draw.Intn(64)
		return []int{n, -n, math.MinInt + n, math.MaxInt - n}[draw.Intn(4)]
	}
	for range 300000 {
		minute := some()
		d, err := cal.Of(minute)
		if fits := minute >= first && minute <= last; (err == api.OK) != fits || !fits && (err != api.ErrArg || d != (api.Date{})) {
			t.Fatalf("Of(%d): %+v, %v", minute, d, err)
		}
		d = date(some(), some(), some(), some(), some(), some())
		n, err := cal.Minute(d)
		if err != api.OK && (err != api.ErrArg || n != 0) {
			t.Fatalf("Minute(%+v): %d, %v", d, n, err)
		}
		year, month := some(), some()
		if days := cal.Days(year, month); days != 0 && (month < 1 || month > 12 || days != length(year, month)) {
			t.Fatalf("Days(%d, %d): %d", year, month, days)
		}
	}
}
