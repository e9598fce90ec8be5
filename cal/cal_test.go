package cal_test

import (
	"fmt"
	"math"
	"testing"

	"horologe/api"
	"horologe/cal"
)

// The first and the last minute that have a date.
const (
	first = -1035593280
	last  = 4223371679
)

func date(year, month, day, hour, minute, weekday int) api.Date {
	return api.Date{Year: year, Month: month, Day: day, Hour: hour, Minute: minute, Weekday: weekday}
}

// has asks for a minute's date, and for the date's minute.
func has(t *testing.T, minute int, want api.Date) {
	t.Helper()
	if d, err := cal.Of(minute); d != want || err != api.OK {
		t.Errorf("Of(%d): %+v, %v, not %+v", minute, d, err, want)
	}
	if n, err := cal.Minute(want); n != minute || err != api.OK {
		t.Errorf("Minute(%+v): %d, %v, not %d", want, n, err, minute)
	}
}

// hasNone asks that a minute has no date.
func hasNone(t *testing.T, minute int) {
	t.Helper()
	if d, err := cal.Of(minute); d != (api.Date{}) || err != api.ErrArg {
		t.Errorf("Of(%d): %+v, %v, not %v", minute, d, err, api.ErrArg)
	}
}

// isNone asks that there is no such date.
func isNone(t *testing.T, d api.Date) {
	t.Helper()
	if n, err := cal.Minute(d); n != 0 || err != api.ErrArg {
		t.Errorf("Minute(%+v): %d, %v, not %v", d, n, err, api.ErrArg)
	}
}

func TestP501LeapYears(t *testing.T) {
	for year, want := range map[int]bool{
		1: false, 2: false, 3: false, 4: true, 5: false, 96: true, 97: false,
		100: false, 200: false, 300: false, 400: true, 404: true, 500: false, 800: true,
		1582: false, 1600: true, 1700: false, 1752: true, 1800: false, 1900: false, 1904: true, 1970: false, 1972: true,
		2000: true, 2023: false, 2024: true, 2025: false, 2026: false, 2100: false, 2400: true,
		9996: true, 9999: false, 9600: true, 9900: false,
		// beyond the years that dates have
		0: true, -1: false, -2: false, -3: false, -4: true, -96: true, -100: false, -200: false, -300: false, -400: true, -401: false, -2000: true, -2100: false,
		10000: true, 10001: false, 10004: true, 10100: false, 10400: true, 1000000: true, 1000100: false,
		// -2^63 ends with 08, 2^63 - 1 is odd
		math.MinInt: true, math.MaxInt: false, math.MaxInt - 3: true, math.MaxInt - 7: false, math.MinInt + 8: false, math.MinInt + 208: true,
	} {
		if got := cal.Leap(year); got != want {
			t.Errorf("Leap(%d): %v", year, got)
		}
	}
}

// A leap year is told here by counting: each fourth one from 0 on, both ways, but of those of hundreds each fourth alone.
func TestP501LeapYearsOneBehindTheOther(t *testing.T) {
	four, hundred, fourHundred := 0, 0, 0
	for year := range 20001 {
		want := four == 0 && (hundred != 0 || fourHundred == 0)
		if cal.Leap(year) != want || cal.Leap(-year) != want {
			t.Errorf("Leap of %d and %d: %v, %v, not %v", year, -year, cal.Leap(year), cal.Leap(-year), want)
		}
		four, hundred, fourHundred = turned(four, 4), turned(hundred, 100), turned(fourHundred, 400)
	}
}

// turned counts one on, and begins anew at the end.
func turned(n, end int) int {
	if n+1 == end {
		return 0
	}
	return n + 1
}

func TestP501DaysOfMonths(t *testing.T) {
	common := []int{0, 31, 28, 31, 30, 31, 30, 31, 31, 30, 31, 30, 31, 0}
	leap := []int{0, 31, 29, 31, 30, 31, 30, 31, 31, 30, 31, 30, 31, 0}
	for _, x := range []struct {
		want  []int
		years []int
	}{
		{common, []int{1, 2, 100, 1900, 1970, 2023, 2100, 9999, -1, -100, 10001, 10100, math.MaxInt}},
		{leap, []int{4, 400, 1600, 2000, 2024, 9996, 0, -4, -400, 10000, 10004, math.MinInt}},
	} {
		for _, year := range x.years {
			for month, want := range x.want {
				if got := cal.Days(year, month); got != want {
					t.Errorf("Days(%d, %d): %d, not %d", year, month, got, want)
				}
			}
		}
	}
}

func TestP501MonthsThatAreNone(t *testing.T) {
	for _, year := range []int{math.MinInt, -4, 0, 1, 2023, 2024, 9999, 10000, math.MaxInt} {
		for _, month := range []int{math.MinInt, math.MinInt + 1, -1 << 32, -13, -12, -11, -2, -1, 0, 13, 14, 24, 255, 256 + 2, 1<<32 + 2, 1 << 62, math.MaxInt} {
			if got := cal.Days(year, month); got != 0 {
				t.Errorf("Days(%d, %d): %d, not 0", year, month, got)
			}
		}
	}
}

func TestP502TheExample(t *testing.T) {
	has(t, 0, date(1970, 1, 1, 0, 0, 4))
	has(t, -1, date(1969, 12, 31, 23, 59, 3))
}

func TestP502MinutesAndDates(t *testing.T) {
	const day = 1440
	for minute, want := range map[int]api.Date{
		1: date(1970, 1, 1, 0, 1, 4), 59: date(1970, 1, 1, 0, 59, 4), 60: date(1970, 1, 1, 1, 0, 4),
		day - 1: date(1970, 1, 1, 23, 59, 4), day: date(1970, 1, 2, 0, 0, 5),
		-60: date(1969, 12, 31, 23, 0, 3), -61: date(1969, 12, 31, 22, 59, 3), -day: date(1969, 12, 31, 0, 0, 3), -day - 1: date(1969, 12, 30, 23, 59, 2),
		// the days of the week, around
		2*day + 1: date(1970, 1, 3, 0, 1, 6), 3 * day: date(1970, 1, 4, 0, 0, 0), 4 * day: date(1970, 1, 5, 0, 0, 1), -3 * day: date(1969, 12, 29, 0, 0, 1), -4 * day: date(1969, 12, 28, 0, 0, 0), -5 * day: date(1969, 12, 27, 0, 0, 6),
		// ends of months
		31*day - 1: date(1970, 1, 31, 23, 59, 6), 31 * day: date(1970, 2, 1, 0, 0, 0),
		59*day - 1: date(1970, 2, 28, 23, 59, 6), 59 * day: date(1970, 3, 1, 0, 0, 0),
		120*day - 1: date(1970, 4, 30, 23, 59, 4), 120 * day: date(1970, 5, 1, 0, 0, 5),
		// ends of years
		365*day - 1: date(1970, 12, 31, 23, 59, 4), 365 * day: date(1971, 1, 1, 0, 0, 5),
		789*day - 1: date(1972, 2, 28, 23, 59, 1), 789 * day: date(1972, 2, 29, 0, 0, 2), 790*day - 1: date(1972, 2, 29, 23, 59, 2), 790 * day: date(1972, 3, 1, 0, 0, 3),
		1096*day - 1: date(1972, 12, 31, 23, 59, 0), 1096 * day: date(1973, 1, 1, 0, 0, 1),
		// of centuries
		-25567*day - 1: date(1899, 12, 31, 23, 59, 0), -25567 * day: date(1900, 1, 1, 0, 0, 1), -25508*day - 1: date(1900, 2, 28, 23, 59, 3), -25508 * day: date(1900, 3, 1, 0, 0, 4),
		10957*day - 1: date(1999, 12, 31, 23, 59, 5), 10957 * day: date(2000, 1, 1, 0, 0, 6), 11016 * day: date(2000, 2, 29, 0, 0, 2), 11017*day - 1: date(2000, 2, 29, 23, 59, 2), 11017 * day: date(2000, 3, 1, 0, 0, 3),
		11323*day - 1: date(2000, 12, 31, 23, 59, 0), 11323 * day: date(2001, 1, 1, 0, 0, 1),
		47541*day - 1: date(2100, 2, 28, 23, 59, 0), 47541 * day: date(2100, 3, 1, 0, 0, 1),
		20774*day + 754: date(2026, 11, 17, 12, 34, 2),
	} {
		has(t, minute, want)
	}
}

func TestP502TheFirstMinuteAndTheLast(t *testing.T) {
	has(t, first, date(1, 1, 1, 0, 0, 1))
	has(t, first+1, date(1, 1, 1, 0, 1, 1))
	has(t, last, date(9999, 12, 31, 23, 59, 5))
	has(t, last-1, date(9999, 12, 31, 23, 58, 5))
	for _, minute := range []int{
		first - 1, first - 2, first - 1440, first - 146097*1440, 2 * first, -1 << 40, -1 << 62, math.MinInt + 1, math.MinInt,
		last + 1, last + 2, last + 1440, last + 146097*1440, 2 * last, 1 << 40, 1 << 62, math.MaxInt - 1, math.MaxInt,
	} {
		hasNone(t, minute)
	}
}

// Beyond what a minute may be plus or less the year 1970, sums could go round.
func TestP502MinutesAtTheEndsOfInt(t *testing.T) {
	for n := range 2000 {
		hasNone(t, math.MinInt+n)
		hasNone(t, math.MaxInt-n)
		hasNone(t, math.MinInt-first+n-1000)
		hasNone(t, math.MaxInt+first+n-1000)
	}
}

func TestP502FieldsOutOfBounds(t *testing.T) {
	fields := []struct {
		name  string
		of    func(*api.Date) *int
		fine  []int
		wrong []int
	}{
		{"Year", func(d *api.Date) *int { return &d.Year }, []int{1, 2, 4, 1969, 1970, 9998, 9999}, []int{0, -1, -4, -1970, 10000, 10001}},
		{"Month", func(d *api.Date) *int { return &d.Month }, []int{1, 2, 3, 11, 12}, []int{0, -1, -12, 13, 14}},
		{"Day", func(d *api.Date) *int { return &d.Day }, []int{1, 2, 27, 28}, []int{0, -1, -28, 32, 33}},
		{"Hour", func(d *api.Date) *int { return &d.Hour }, []int{0, 1, 22, 23}, []int{-1, -2, -23, 24, 25, 60}},
		{"Minute", func(d *api.Date) *int { return &d.Minute }, []int{0, 1, 23, 24, 58, 59}, []int{-1, -2, -59, 60, 61}},
	}
	far := []int{math.MinInt, math.MinInt + 1, -1 << 62, -1 << 32, 1<<32 + 1, 1 << 62, math.MaxInt - 1, math.MaxInt}
	for _, d := range []api.Date{date(2024, 2, 28, 23, 59, 3), date(1, 1, 1, 0, 0, 1), date(9999, 12, 31, 23, 59, 5), date(2023, 6, 15, 12, 30, 4)} {
		for _, f := range fields {
			for _, n := range f.fine {
				x := d
				x.Day = min(d.Day, 28)
				*f.of(&x) = n
				if _, err := cal.Minute(x); err != api.OK {
					t.Errorf("Minute(%+v): %v", x, err)
				}
			}
			for _, n := range append(far, f.wrong...) {
				x := d
				*f.of(&x) = n
				isNone(t, x)
			}
		}
	}
}

// All fields together, each of them out of bounds or not.
func TestP502EveryFieldIsAsked(t *testing.T) {
	at := func(wrong bool, n, fine int) int {
		if wrong {
			return n
		}
		return fine
	}
	for _, n := range []int{math.MinInt, -1, 10000, math.MaxInt} {
		for set := 1; set < 32; set++ {
			isNone(t, api.Date{
				Year:   at(set&1 != 0, n, 2024),
				Month:  at(set&2 != 0, n, 2),
				Day:    at(set&4 != 0, n, 29),
				Hour:   at(set&8 != 0, n, 23),
				Minute: at(set&16 != 0, n, 59),
			})
		}
	}
	isNone(t, api.Date{})
}

func TestP502OneDayMoreThanTheMonthHas(t *testing.T) {
	for _, year := range []int{1, 4, 100, 400, 1900, 1970, 2000, 2023, 2024, 2100, 9996, 9999} {
		for month := 1; month <= 12; month++ {
			days := cal.Days(year, month)
			isNone(t, date(year, month, 0, 0, 0, 0))
			isNone(t, date(year, month, days+1, 0, 0, 0))
			for _, day := range []int{1, days} {
				if _, err := cal.Minute(date(year, month, day, 0, 0, 0)); err != api.OK {
					t.Errorf("%d-%d-%d: %v", year, month, day, err)
				}
			}
		}
	}
	for _, year := range []int{1, 100, 1900, 2023, 2100, 9999} {
		isNone(t, date(year, 2, 29, 0, 0, 0))
	}
}

func TestP502TheWeekdayIsNotAsked(t *testing.T) {
	for _, weekday := range []int{math.MinInt, -1, 0, 1, 2, 3, 4, 5, 6, 7, 99, math.MaxInt} {
		for minute, d := range map[int]api.Date{first: date(1, 1, 1, 0, 0, weekday), 0: date(1970, 1, 1, 0, 0, weekday), 1440 + 61: date(1970, 1, 2, 1, 1, weekday), last: date(9999, 12, 31, 23, 59, weekday)} {
			if n, err := cal.Minute(d); n != minute || err != api.OK {
				t.Errorf("Minute(%+v): %d, %v, not %d", d, n, err, minute)
			}
		}
	}
}

func ExampleOf() {
	d, _ := cal.Of(0)
	fmt.Printf("%04d-%02d-%02d %02d:%02d, %d\n", d.Year, d.Month, d.Day, d.Hour, d.Minute, d.Weekday)
	d, _ = cal.Of(-1)
	fmt.Printf("%04d-%02d-%02d %02d:%02d, %d\n", d.Year, d.Month, d.Day, d.Hour, d.Minute, d.Weekday)
	// Output:
	// 1970-01-01 00:00, 4
	// 1969-12-31 23:59, 3
}
