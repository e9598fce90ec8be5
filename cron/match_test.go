package cron_test

import (
	"math"
	"math/rand"
	"testing"

	"horologe/api"
	"horologe/cal"
	"horologe/cron"
)

// isMatched holds Matches against the model.
func isMatched(t *testing.T, e cron.Expr, minute int) {
	t.Helper()
	if got, want := e.Matches(minute), matched(e, minute); got != want {
		t.Fatalf("%+v: Matches(%d): %v", e, minute, got)
	}
}

func TestP603TheMinuteTheHourTheMonth(t *testing.T) {
	e := must(t, "30 4 * 2,11 *")
	for _, x := range []struct {
		month, day, hour, minute int
		want                     bool
	}{
		{2, 1, 4, 30, true}, {2, 28, 4, 30, true}, {11, 17, 4, 30, true},
		{2, 1, 4, 29, false}, {2, 1, 4, 31, false}, {2, 1, 4, 0, false}, {2, 1, 3, 30, false}, {2, 1, 5, 30, false}, {2, 1, 16, 30, false},
		{1, 1, 4, 30, false}, {3, 1, 4, 30, false}, {10, 31, 4, 30, false}, {12, 1, 4, 30, false},
	} {
		if got := e.Matches(at(t, 2026, x.month, x.day, x.hour, x.minute)); got != x.want {
			t.Errorf("%+v: %v", x, got)
		}
	}
}

// All four cases of the stars, for each day of two years.
func TestP603TheDays(t *testing.T) {
	for s, fits := range map[string]func(d api.Date) bool{
		"0 0 * * *":       func(d api.Date) bool { return true },
		"0 0 * * 5":       func(d api.Date) bool { return d.Weekday == 5 },
		"0 0 * * 0,6":     func(d api.Date) bool { return d.Weekday == 0 || d.Weekday == 6 },
		"0 0 13 * *":      func(d api.Date) bool { return d.Day == 13 },
		"0 0 1,31 * *":    func(d api.Date) bool { return d.Day == 1 || d.Day == 31 },
		"0 0 13 * 5":      func(d api.Date) bool { return d.Day == 13 || d.Weekday == 5 },
		"0 0 29-31 2 0":   func(d api.Date) bool { return d.Month == 2 && (d.Day >= 29 || d.Weekday == 0) },
		"0 0 1-31 * 5":    func(d api.Date) bool { return true },
		"0 0 13 * 0-6":    func(d api.Date) bool { return true },
		"0 0 1-31 * 0-6":  func(d api.Date) bool { return true },
		"0 0 1-31 * *":    func(d api.Date) bool { return true },
		"0 0 * * 0-6":     func(d api.Date) bool { return true },
		"0 0 13 1-6 *":    func(d api.Date) bool { return d.Day == 13 && d.Month <= 6 },
		"0 0 * 7-12 1":    func(d api.Date) bool { return d.Weekday == 1 && d.Month >= 7 },
		"0 0 1-30 2,12 *": func(d api.Date) bool { return d.Month == 2 || d.Month == 12 && d.Day < 31 },
	} {
		e := must(t, s)
		for n := range 731 {
			minute := at(t, 2023, 1, 1, 0, 0) + n*day
			d, _ := cal.Of(minute)
			if got := e.Matches(minute); got != fits(d) {
				t.Errorf("%q: %+v: %v", s, d, got)
			}
			if e.Matches(minute+1) || e.Matches(minute-1) || e.Matches(minute+60) {
				t.Errorf("%q: %+v: another minute matches", s, d)
			}
		}
	}
}

// The stars alone count, not the bits of their fields; bits of no number count nothing.
func TestP603WhateverBits(t *testing.T) {
	noon := at(t, 2026, 11, 17, 12, 30) // a Tuesday
	all := cron.Expr{Minute: 1 << 30, Hour: 1 << 12, Month: 1 << 11}
	for i, x := range []struct {
		day, weekday       uint64
		anyDay, anyWeekday bool
		want               bool
	}{
		{0, 0, true, true, true}, {0, 0, true, false, false}, {0, 0, false, true, false}, {0, 0, false, false, false},
		{1 << 17, 0, true, false, false}, {1 << 17, 0, false, true, true}, {1 << 17, 0, false, false, true}, {1 << 17, 0, true, true, true},
		{0, 1 << 2, true, false, true}, {0, 1 << 2, false, true, false}, {0, 1 << 2, false, false, true}, {0, 1 << 2, true, true, true},
		{^uint64(1 << 17), ^uint64(1 << 2), false, false, false}, {^uint64(1 << 17), ^uint64(1 << 2), true, false, false}, {^uint64(1 << 17), ^uint64(1 << 2), false, true, false},
	} {
		e := all
		e.Day, e.Weekday, e.AnyDay, e.AnyWeekday = x.day, x.weekday, x.anyDay, x.anyWeekday
		if got := e.Matches(noon); got != x.want {
			t.Errorf("%d: %+v: %v", i, e, got)
		}
	}
	if (cron.Expr{}).Matches(0) {
		t.Error("an expression of nothing matches")
	}
}

func TestP603MinutesThatHaveNoDate(t *testing.T) {
	every := cron.Expr{Minute: math.MaxUint64, Hour: math.MaxUint64, Day: math.MaxUint64, Month: math.MaxUint64, Weekday: math.MaxUint64, AnyDay: true, AnyWeekday: true}
	for _, e := range []cron.Expr{full, every, must(t, "* * 1-31 * 0-6")} {
		for _, minute := range []int{first, first + 1, -1, 0, 1, last - 1, last} {
			if !e.Matches(minute) {
				t.Errorf("%+v: %d does not match", e, minute)
			}
		}
		for _, minute := range []int{first - 1, first - 2, first - day, last + 1, last + 2, last + day, 1 << 40, -1 << 40, 1 << 62, -1 << 62, math.MaxInt, math.MaxInt - 1, math.MinInt, math.MinInt + 1} {
			if e.Matches(minute) {
				t.Errorf("%+v: %d matches", e, minute)
			}
		}
	}
}

func TestP603DrawnMinutes(t *testing.T) {
	draw := rand.New(rand.NewSource(603))
	yes := 0
	for range 100000 {
		for _, e := range []cron.Expr{must(t, drawnExpr(draw)), drawnBits(draw)} {
			minute := drawnMinute(draw)
			isMatched(t, e, minute)
			if e.Matches(minute) {
				yes++
			}
			isMatched(t, e, int(draw.Uint64())>>draw.Intn(64))
		}
	}
	if yes < 2000 {
		t.Errorf("%d matched: too few to tell", yes)
	}
}
