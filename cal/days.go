package cal

import (
	"horologe/api"
)

// A span is so many years with so many days. Ahead of a day there are at most so many whole ones within the next longer span: its last one may have a day more, which belongs to it.
type span struct {
	years, days, most int
}

var spans = [...]span{
	{years: 400, days: 146097, most: lastYear / 400},
	{years: 100, days: 36524, most: 3},
	{years: 4, days: 1461, most: 24},
	{years: 1, days: 365, most: 3},
}

// The first day of all was a Monday.
const (
	weekDays     = 7
	firstWeekday = 1
)

// dateOf tells the date of a day's beginning.
func dateOf(day int) api.Date {
	d := api.Date{Year: firstYear, Month: 1, Weekday: (day + firstWeekday) % weekDays}
	for _, s := range spans {
		n := min(day/s.days, s.most)
		d.Year += n * s.years
		day -= n * s.days
	}
	for day >= Days(d.Year, d.Month) {
		day -= Days(d.Year, d.Month)
		d.Month++
	}
	d.Day = day + 1
	return d
}

// dayOf tells a date's day.
func dayOf(d api.Date) int {
	day := d.Day - 1
	years := d.Year - firstYear
	for _, s := range spans {
		day += years / s.years * s.days
		years %= s.years
	}
	for month := 1; month < d.Month; month++ {
		day += Days(d.Year, month)
	}
	return day
}
