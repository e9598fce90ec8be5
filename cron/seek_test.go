package cron_test

import (
	"math"
	"math/rand"
	"testing"

	"horologe/api"
	"horologe/cal"
	"horologe/cron"
)

// date is year, month, day, hour, minute.
type date [5]int

func (d date) minute(t *testing.T) int {
	t.Helper()
	return at(t, d[0], d[1], d[2], d[3], d[4])
}

func TestP604TheExample(t *testing.T) {
	e := must(t, "0 0 29 2 *")
	want := at(t, 2104, 2, 29, 0, 0)
	if n, err := e.Next(at(t, 2096, 3, 1, 0, 0)); n != want || err != api.OK {
		t.Errorf("%d, %v, not %d", n, err, want)
	}
	f := must(t, "0 0 13 * 5")
	n := at(t, 2026, 11, 12, 0, 0)
	for _, day := range []int{13, 20, 27} {
		n, _ = f.Next(n)
		if n != at(t, 2026, 11, day, 0, 0) {
			t.Errorf("not the %dth: %d", day, n)
		}
	}
	n = at(t, 2026, 12, 12, 0, 0)
	if n, _ = f.Next(n); n != at(t, 2026, 12, 13, 0, 0) {
		t.Errorf("not the 13th: %d", n)
	}
}

// Each way: from one date the other one is Next's, and from the minute ahead of that one the first one is Prev's, if it matches.
func TestP604Next(t *testing.T) {
	for _, x := range []struct {
		s          string
		from, want date
	}{
		{"* * * * *", date{2026, 11, 17, 12, 0}, date{2026, 11, 17, 12, 1}},
		{"* * * * *", date{2026, 12, 31, 23, 59}, date{2027, 1, 1, 0, 0}},
		{"5 * * * *", date{2026, 1, 1, 0, 4}, date{2026, 1, 1, 0, 5}},
		{"5 * * * *", date{2026, 1, 1, 0, 5}, date{2026, 1, 1, 1, 5}},
		{"5 * * * *", date{2026, 1, 1, 23, 5}, date{2026, 1, 2, 0, 5}},
		{"59 * * * *", date{2026, 1, 1, 0, 59}, date{2026, 1, 1, 1, 59}},
		{"0 * * * *", date{2026, 1, 1, 0, 0}, date{2026, 1, 1, 1, 0}},
		{"10-20 8-9 * * *", date{2026, 1, 1, 8, 20}, date{2026, 1, 1, 9, 10}},
		{"10-20 8-9 * * *", date{2026, 1, 1, 9, 20}, date{2026, 1, 2, 8, 10}},
		{"30 4 * * *", date{2026, 2, 28, 5, 0}, date{2026, 3, 1, 4, 30}},
		{"30 4 * * *", date{2028, 2, 28, 5, 0}, date{2028, 2, 29, 4, 30}},
		{"0 0 1 * *", date{2026, 1, 31, 23, 59}, date{2026, 2, 1, 0, 0}},
		{"0 0 31 * *", date{2026, 1, 31, 0, 0}, date{2026, 3, 31, 0, 0}},
		{"59 23 31 12 *", date{2026, 12, 31, 23, 59}, date{2027, 12, 31, 23, 59}},
		{"0 0 1 1 *", date{2026, 1, 1, 0, 0}, date{2027, 1, 1, 0, 0}},
		{"0 12 * * 0", date{2026, 11, 17, 12, 0}, date{2026, 11, 22, 12, 0}},
		{"0 12 * * 6", date{2026, 11, 22, 12, 0}, date{2026, 11, 28, 12, 0}},
		{"0 0 31 4 1", date{2023, 4, 1, 0, 0}, date{2023, 4, 3, 0, 0}},
		{"0 0 31 2,4 1", date{2023, 4, 24, 0, 0}, date{2024, 2, 5, 0, 0}},
		{"59 23 29 2 *", date{2024, 2, 29, 23, 59}, date{2028, 2, 29, 23, 59}},
		{"0 0 29 2 *", date{1896, 2, 29, 0, 0}, date{1904, 2, 29, 0, 0}},
		{"0 0 29 2 *", date{1996, 2, 29, 0, 0}, date{2000, 2, 29, 0, 0}},
		{"0 0 29 2 *", date{2000, 2, 29, 0, 0}, date{2004, 2, 29, 0, 0}},
		{"0 0 29 2 *", date{2096, 2, 29, 0, 0}, date{2104, 2, 29, 0, 0}},
		{"0 0 29 2 *", date{2096, 2, 28, 23, 59}, date{2096, 2, 29, 0, 0}},
		{"0 0 29 2 *", date{2096, 2, 29, 0, 1}, date{2104, 2, 29, 0, 0}},
		{"0 0 29 2 *", date{1, 1, 1, 0, 0}, date{4, 2, 29, 0, 0}},
		{"0 0 29-31 2 *", date{9992, 3, 1, 0, 0}, date{9996, 2, 29, 0, 0}},
		{"59 23 31 12 *", date{9999, 1, 1, 0, 0}, date{9999, 12, 31, 23, 59}},
	} {
		e := must(t, x.s)
		from, want := x.from.minute(t), x.want.minute(t)
		if n, err := e.Next(from); n != want || err != api.OK {
			t.Errorf("%q: Next(%v): %d, %v, not %d", x.s, x.from, n, err, want)
		}
		if n, err := e.Next(want - 1); n != want || err != api.OK {
			t.Errorf("%q: Next from a minute ahead of %v: %d, %v", x.s, x.want, n, err)
		}
		if n, err := e.Prev(want, from); n != want || err != api.OK {
			t.Errorf("%q: Prev(%v, %v): %d, %v, not %d", x.s, x.want, x.from, n, err, want)
		}
		if want-1 > from {
			none(t, e, want-1, from)
		}
		if matched(e, from) {
			if n, err := e.Prev(want-1, math.MinInt); n != from || err != api.OK {
				t.Errorf("%q: Prev from a minute ahead of %v: %d, %v, not %d", x.s, x.want, n, err, from)
			}
		}
	}
}

// none asks that Prev finds nothing.
func none(t *testing.T, e cron.Expr, upto, after int) {
	t.Helper()
	if n, err := e.Prev(upto, after); n != 0 || err != api.ErrNever {
		t.Errorf("%q: Prev(%d, %d): %d, %v, not %v", e.Text(), upto, after, n, err, api.ErrNever)
	}
}

// never asks that Next finds nothing.
func never(t *testing.T, e cron.Expr, after int) {
	t.Helper()
	if n, err := e.Next(after); n != 0 || err != api.ErrNever {
		t.Errorf("%q: Next(%d): %d, %v, not %v", e.Text(), after, n, err, api.ErrNever)
	}
}

func TestP604MinutesThatHaveNoDate(t *testing.T) {
	for _, s := range []string{"* * * * *", "0 0 30 2 *", "0 0 1 1 *", "59 23 31 12 *"} {
		e := must(t, s)
		for _, m := range []int{first - 1, first - 2, first - day, last + 1, last + 2, last + day, -1 << 40, 1 << 40, 1 << 62, -1 << 62, math.MinInt, math.MinInt + 1, math.MaxInt, math.MaxInt - 1, math.MaxInt - api.Horizon} {
			if n, err := e.Next(m); n != 0 || err != api.ErrArg {
				t.Errorf("%q: Next(%d): %d, %v", s, m, n, err)
			}
			for _, after := range []int{math.MinInt, m - 1, m, m + 1, 0, first, last, math.MaxInt} {
				if n, err := e.Prev(m, after); n != 0 || err != api.ErrArg {
					t.Errorf("%q: Prev(%d, %d): %d, %v", s, m, after, n, err)
				}
			}
		}
	}
}

func TestP604TheFirstMinuteAndTheLast(t *testing.T) {
	every := must(t, "* * * * *")
	for _, m := range []int{first, last - 1, -2, -1, 0} {
		if n, err := every.Next(m); n != m+1 || err != api.OK {
			t.Errorf("Next(%d): %d, %v", m, n, err)
		}
	}
	never(t, every, last)
	for _, m := range []int{first, first + 1, last, last - 1, -1, 0, 1} {
		for _, after := range []int{m - 1, m - 2, m - day, math.MinInt, math.MinInt + 1, -1 << 62} {
			if n, err := every.Prev(m, after); n != m || err != api.OK {
				t.Errorf("Prev(%d, %d): %d, %v", m, after, n, err)
			}
		}
	}
	newYear, silvester := must(t, "0 0 1 1 *"), must(t, "59 23 31 12 *")
	if n, err := newYear.Next(first); n != first+365*day || err != api.OK {
		t.Errorf("behind the first minute: %d, %v", n, err)
	}
	for _, upto := range []int{first, first + 1, first + day, first + 365*day - 1} {
		for _, after := range []int{first - 1, first - 2, first - api.Horizon, -1 << 62, math.MinInt} {
			if n, err := newYear.Prev(upto, after); n != first || err != api.OK {
				t.Errorf("Prev(%d, %d): %d, %v", upto, after, n, err)
			}
			none(t, silvester, min(upto, first+365*day-2), after)
		}
	}
	if n, err := silvester.Next(last - 1); n != last || err != api.OK {
		t.Errorf("ahead of the last minute: %d, %v", n, err)
	}
	never(t, silvester, last)
	if n, err := silvester.Prev(last, math.MinInt); n != last || err != api.OK {
		t.Errorf("the last minute: %d, %v", n, err)
	}
	if n, err := silvester.Prev(last-1, math.MinInt); n != last-365*day || err != api.OK {
		t.Errorf("ahead of the last minute: %d, %v", n, err)
	}
}

// What would come beyond the last year, or ahead of the first one, does not.
func TestP604AnswersBeyondTheYears(t *testing.T) {
	for _, x := range []struct {
		s     string
		after date
	}{
		{"0 0 1 1 *", date{9999, 1, 1, 0, 0}}, {"0 0 1 1 *", date{9999, 12, 31, 23, 59}}, {"0 0 29 2 *", date{9996, 2, 29, 0, 0}}, {"0 0 29 2 *", date{9999, 6, 1, 0, 0}}, {"58 23 31 12 *", date{9999, 12, 31, 23, 58}}, {"0 * * * *", date{9999, 12, 31, 23, 0}}, {"* * * * 6", date{9999, 12, 25, 23, 59}}, {"* * * 1-11 *", date{9999, 11, 30, 23, 59}},
	} {
		never(t, must(t, x.s), x.after.minute(t))
	}
	for _, x := range []struct {
		s    string
		upto date
	}{
		{"0 0 2 1 *", date{1, 1, 1, 23, 59}}, {"0 0 29 2 *", date{4, 2, 28, 23, 59}}, {"59 23 31 12 *", date{1, 12, 31, 23, 58}}, {"1 0 1 1 *", date{1, 1, 1, 0, 0}}, {"* * * * 0", date{1, 1, 6, 23, 59}}, {"* * * 2-12 *", date{1, 1, 31, 23, 59}}, {"* 1-23 * * *", date{1, 1, 1, 0, 59}},
	} {
		for _, after := range []int{first - 1, first, math.MinInt} {
			if upto := x.upto.minute(t); after < upto {
				none(t, must(t, x.s), upto, after)
			}
		}
	}
}

// Days that never come.
func TestP604Never(t *testing.T) {
	for _, s := range []string{"0 0 30 2 *", "0 0 31 2 *", "* * 30,31 2 *", "* * 31 4 *", "* * 31 6 *", "* * 31 9 *", "* * 31 11 *", "0 0 31 2,4,6,9,11 *", "59 23 30-31 2 *"} {
		e := must(t, s)
		for _, m := range []int{first, first + 1, at(t, 1896, 1, 1, 0, 0), -1, 0, 1, at(t, 2000, 2, 29, 12, 0), at(t, 2026, 11, 17, 12, 0), last - 1, last} {
			never(t, e, m)
			none(t, e, m, m-1)
			none(t, e, m, m-day)
			none(t, e, m, math.MinInt)
		}
	}
	// Fields that allow nothing, or only what is no number of theirs.
	for field := range 5 {
		for _, bits := range []uint64{0, ^numbers(field)} {
			e := withBits(field, bits)
			never(t, e, 0)
			none(t, e, 0, math.MinInt)
		}
	}
	never(t, cron.Expr{}, 0)
	none(t, cron.Expr{}, 0, math.MinInt)
}

func TestP604PrevAsksWhatIsAhead(t *testing.T) {
	for _, s := range []string{"* * * * *", "0 0 30 2 *"} {
		e := must(t, s)
		for _, upto := range []int{first, first + 1, -1, 0, 5, last} {
			for _, after := range []int{upto, upto + 1, upto + 2, upto + day, upto + api.Horizon, last + 1, 1 << 62, math.MaxInt - 1, math.MaxInt} {
				if n, err := e.Prev(upto, after); n != 0 || err != api.ErrArg {
					t.Errorf("%q: Prev(%d, %d): %d, %v", s, upto, after, n, err)
				}
			}
		}
	}
}

// The minute after itself is none; upto itself is one.
func TestP604PrevBetween(t *testing.T) {
	e := must(t, "0 0 1 1 *")
	year := at(t, 2001, 1, 1, 0, 0)
	for _, x := range []struct{ upto, after, want int }{
		{year, year - 1, year}, {year, year - 2, year}, {year, math.MinInt, year}, {year + 1, year - 1, year}, {year + 365*day - 1, year - 1, year}, {year + 365*day - 1, year - 365*day, year}, {year + 365*day, year, year + 365*day}, {year - 1, math.MinInt, year - 366*day}, {year - 1, year - 366*day - 1, year - 366*day},
	} {
		if n, err := e.Prev(x.upto, x.after); n != x.want || err != api.OK {
			t.Errorf("Prev(%d, %d): %d, %v, not %d", x.upto, x.after, n, err, x.want)
		}
	}
	none(t, e, year+1, year)
	none(t, e, year+365*day-1, year)
	none(t, e, year-1, year-366*day)
	none(t, e, year-1, year-2)
	every := must(t, "* * * * *")
	if n, err := every.Prev(6, 5); n != 6 || err != api.OK {
		t.Errorf("just ahead: %d, %v", n, err)
	}
}

// The longest time between two minutes that match, eight years with one leap day, is shorter than the horizon: from a minute that lies the horizon ahead of the answer another one is found first.
func TestP604TheHorizonIsBeyondEveryGap(t *testing.T) {
	e := must(t, "0 0 29 2 *")
	from, to := at(t, 1896, 2, 29, 0, 0), at(t, 1904, 2, 29, 0, 0)
	if api.Horizon != 4216320 || to-from != 2921*day {
		t.Fatalf("%d, %d", api.Horizon, to-from)
	}
	for _, more := range []int{-1, 0, 1} {
		if n, err := e.Next(to - api.Horizon + more); n != from || err != api.OK {
			t.Errorf("Next(%d): %d, %v", to-api.Horizon+more, n, err)
		}
		if n, err := e.Prev(from+api.Horizon+more, math.MinInt); n != to || err != api.OK {
			t.Errorf("Prev(%d): %d, %v", from+api.Horizon+more, n, err)
		}
	}
	if n, err := e.Prev(to-1, math.MinInt); n != from || err != api.OK {
		t.Errorf("Prev(%d): %d, %v", to-1, n, err)
	}
}

// A minute, an hour, a day, a month each, and what stands between.
func TestP604EveryAnswerOfSomeYears(t *testing.T) {
	for _, s := range []string{"7,50 3-5 * * *", "0 12 10-12 * 2", "59 0 * 2 *", "15-20 23 31 * *", "0 0 29 2 *", "59 23 28-31 * *", "0 0 1 * *", "0,59 0,23 * 1,12 0,6", "30 0,12 * * *", "0 0 30 2 1"} {
		e := must(t, s)
		var want []int
		begin, end := at(t, 2023, 12, 30, 0, 0), at(t, 2025, 3, 2, 0, 0)
		for m := begin; m < end; m++ {
			if e.Matches(m) {
				want = append(want, m)
			}
		}
		m := begin - 1
		for i, x := range want {
			if n, err := e.Next(m); n != x || err != api.OK {
				t.Fatalf("%q: Next(%d): %d, %v, not %d", s, m, n, err, x)
			}
			upto := end - 1
			if i+1 < len(want) {
				upto = want[i+1] - 1
			}
			if n, err := e.Prev(upto, m); n != x || err != api.OK {
				t.Fatalf("%q: Prev(%d, %d): %d, %v, not %d", s, upto, m, n, err, x)
			}
			m = x
		}
	}
}

func TestP604DrawnExpressions(t *testing.T) {
	draw := rand.New(rand.NewSource(604))
	for range 6000 {
		e := must(t, drawnExpr(draw))
		m := drawnMinute(draw)
		isNext(t, e, m)
		isPrev(t, e, m, math.MinInt)
		isPrev(t, e, m, m-1)
		isPrev(t, e, m, m-draw.Intn(1<<draw.Intn(30)))
	}
}

// From where a field begins and ends.
func TestP604DrawnExpressionsAtEnds(t *testing.T) {
	draw := rand.New(rand.NewSource(606))
	for range 6000 {
		e := must(t, drawnExpr(draw))
		d, _ := cal.Of(drawnMinute(draw))
		d.Minute = []int{0, 59, d.Minute}[draw.Intn(3)]
		d.Hour = []int{0, 23, d.Hour}[draw.Intn(3)]
		d.Day = []int{1, cal.Days(d.Year, d.Month), d.Day}[draw.Intn(3)]
		m, err := cal.Minute(d)
		if err != api.OK {
			t.Fatalf("%+v: %v", d, err)
		}
		isNext(t, e, m)
		isPrev(t, e, m, math.MinInt)
	}
}

// Whatever bits an expression has, Next and Prev go by what matches.
func TestP604WhateverBits(t *testing.T) {
	draw := rand.New(rand.NewSource(607))
	for range 300 {
		e := drawnBits(draw)
		m := drawnMinute(draw)
		isNext(t, e, m)
		isPrev(t, e, m, math.MinInt)
	}
}

// P1: whatever numbers.
func TestP1WhateverNumbers(t *testing.T) {
	draw := rand.New(rand.NewSource(608))
	some := func() int {
		n := int(draw.Uint64()) >> draw.Intn(64)
		return []int{n, -n, math.MinInt + n, math.MaxInt - n}[draw.Intn(4)]
	}
	for range 20000 {
		e := must(t, drawnExpr(draw))
		m, after := some(), some()
		n, err := e.Next(m)
		if fits := m >= first && m <= last; fits == (err == api.ErrArg) || err != api.OK && n != 0 {
			t.Fatalf("Next(%d): %d, %v", m, n, err)
		}
		n, err = e.Prev(m, after)
		if fits := m >= first && m <= last && after < m; fits == (err == api.ErrArg) || err != api.OK && n != 0 {
			t.Fatalf("Prev(%d, %d): %d, %v", m, after, n, err)
		}
	}
}

// Between where it began and Next's answer nothing matches, the answer does, and Prev finds it again; Next leads on from what Prev finds.
func TestP605Between(t *testing.T) {
	draw := rand.New(rand.NewSource(609))
	near := 0
	for range 4000 {
		e := must(t, drawnExpr(draw))
		m := drawnMinute(draw)
		n, err := e.Next(m)
		if err != api.OK {
			continue
		}
		if !e.Matches(n) || n <= m {
			t.Fatalf("%q: Next(%d): %d", e.Text(), m, n)
		}
		if n-m < 40*day {
			near++
			for k := m + 1; k < n; k++ {
				if e.Matches(k) {
					t.Fatalf("%q: Next(%d): %d, but %d matches", e.Text(), m, n, k)
				}
			}
		}
		for _, after := range []int{n - 1, m, m - 1, math.MinInt} {
			if p, err := e.Prev(n, after); p != n || err != api.OK {
				t.Fatalf("%q: Prev(%d, %d): %d, %v", e.Text(), n, after, p, err)
			}
		}
		if n-1 > m {
			none(t, e, n-1, m)
		}
		if p, err := e.Prev(n-1, math.MinInt); err == api.OK {
			if back, err := e.Next(p); back != n || err != api.OK {
				t.Fatalf("%q: Next(%d): %d, %v, not %d", e.Text(), p, back, err, n)
			}
		}
	}
	if near < 1000 {
		t.Errorf("%d were near: too few to tell", near)
	}
}
