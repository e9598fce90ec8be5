package cron_test

import (
	"math/rand"
	"regexp"
	"strconv"
	"strings"
	"testing"
	"time"

	"horologe/api"
	"horologe/cal"
	"horologe/cron"
)

// The first and the last minute that have a date.
const (
	first = -1035593280
	last  = 4223371679
	day   = 1440
)

// least, most: the numbers of the fields.
var (
	least = [5]int{0, 0, 1, 1, 0}
	most  = [5]int{59, 23, 31, 12, 6}
)

// full: each field, all of its numbers allowed.
var full = cron.Expr{Minute: 1<<60 - 1, Hour: 1<<24 - 1, Day: 1<<32 - 2, Month: 1<<13 - 2, Weekday: 1<<7 - 1, AnyDay: true, AnyWeekday: true}

// bitsOf is a field of an expression, by its place.
func bitsOf(e *cron.Expr, field int) *uint64 {
	return []*uint64{&e.Minute, &e.Hour, &e.Day, &e.Month, &e.Weekday}[field]
}

// numbers: a field, all of its numbers allowed.
func numbers(field int) uint64 {
	e := full
	return *bitsOf(&e, field)
}

// with is an expression of stars with one field that is none.
func with(field int, text string) string {
	all := []string{"*", "*", "*", "*", "*"}
	all[field] = text
	return strings.Join(all, " ")
}

// withBits is what with's expression should be: one field allows these, and is no star.
func withBits(field int, allowed uint64) cron.Expr {
	e := full
	*bitsOf(&e, field) = allowed
	e.AnyDay, e.AnyWeekday = field != 2, field != 4
	return e
}

func num(n int) string { return strconv.Itoa(n) }

func must(t *testing.T, s string) cron.Expr {
	t.Helper()
	e, err := cron.Parse(s)
	if err != api.OK {
		t.Fatalf("Parse(%q): %v", s, err)
	}
	return e
}

func at(t *testing.T, year, month, day, hour, minute int) int {
	t.Helper()
	n, err := cal.Minute(api.Date{Year: year, Month: month, Day: day, Hour: hour, Minute: minute})
	if err != api.OK {
		t.Fatalf("%d-%d-%d %d:%d: %v", year, month, day, hour, minute, err)
	}
	return n
}

// form is what an expression looks like, but for the bounds of its numbers.
var form = func() *regexp.Regexp {
	item := `[0-9][0-9]?(?:-[0-9][0-9]?)?`
	field := `(\*|` + item + `(?:,` + item + `)*)`
	return regexp.MustCompile(`^[ \t]*` + strings.Repeat(field+`[ \t]+`, 4) + field + `[ \t]*$`)
}()

// parsed tells what Parse should.
func parsed(s string) (cron.Expr, api.Errno) {
	if len(s) > 100 {
		return cron.Expr{}, api.ErrLong
	}
	found := form.FindStringSubmatch(s)
	if found == nil {
		return cron.Expr{}, api.ErrCron
	}
	var e cron.Expr
	for field, text := range found[1:] {
		if text == "*" {
			text = num(least[field]) + "-" + num(most[field])
		}
		for _, item := range strings.Split(text, ",") {
			from, to, ranged := strings.Cut(item, "-")
			if !ranged {
				to = from
			}
			a, _ := strconv.Atoi(from)
			b, _ := strconv.Atoi(to)
			if a > b || a < least[field] || b > most[field] {
				return cron.Expr{}, api.ErrCron
			}
			for n := a; n <= b; n++ {
				*bitsOf(&e, field) |= 1 << n
			}
		}
	}
	e.AnyDay, e.AnyWeekday = found[3] == "*", found[5] == "*"
	return e, api.OK
}

// isParsed holds Parse against the model.
func isParsed(t *testing.T, s string) (cron.Expr, api.Errno) {
	t.Helper()
	e, err := cron.Parse(s)
	if want, wantErr := parsed(s); e != want || err != wantErr {
		t.Fatalf("Parse(%q): %+v, %v, not %+v, %v", s, e, err, want, wantErr)
	}
	return e, err
}

func has(field uint64, n int) bool { return field&(1<<n) != 0 }

// dayFits tells whether a day (of the library's) is allowed, its month, too, and any time of it.
func dayFits(e cron.Expr, x time.Time) bool {
	if !has(e.Month, int(x.Month())) || e.Hour&full.Hour == 0 || e.Minute&full.Minute == 0 {
		return false
	}
	of, week := has(e.Day, x.Day()), has(e.Weekday, int(x.Weekday()))
	return e.AnyDay && e.AnyWeekday || e.AnyDay && !e.AnyWeekday && week || !e.AnyDay && e.AnyWeekday && of || !e.AnyDay && !e.AnyWeekday && (of || week)
}

func dateOf(minute int) time.Time { return time.Unix(int64(minute)*60, 0).UTC() }

// matched tells what Matches should.
func matched(e cron.Expr, minute int) bool {
	if minute < first || minute > last {
		return false
	}
	x := dateOf(minute)
	return dayFits(e, x) && has(e.Hour, x.Hour()) && has(e.Minute, x.Minute())
}

// nextOf tells what Next should: minute by minute, but for whole days that do not fit.
func nextOf(e cron.Expr, after int) (int, api.Errno) {
	if after < first || after > last {
		return 0, api.ErrArg
	}
	for m := after + 1; m <= min(after+8*366*day, last); m++ {
		if (m-first)%day == 0 && !dayFits(e, dateOf(m)) {
			m += day - 1
		} else if matched(e, m) {
			return m, api.OK
		}
	}
	return 0, api.ErrNever
}

// prevOf tells what Prev should.
func prevOf(e cron.Expr, upto, after int) (int, api.Errno) {
	if upto < first || upto > last || after >= upto {
		return 0, api.ErrArg
	}
	for m := upto; m > after && m >= max(upto-8*366*day, first); m-- {
		if (m-first)%day == day-1 && !dayFits(e, dateOf(m)) {
			m -= day - 1
		} else if matched(e, m) {
			return m, api.OK
		}
	}
	return 0, api.ErrNever
}

// isNext holds Next against the model.
func isNext(t *testing.T, e cron.Expr, after int) (int, api.Errno) {
	t.Helper()
	n, err := e.Next(after)
	if want, wantErr := nextOf(e, after); n != want || err != wantErr {
		t.Fatalf("%+v: Next(%d): %d, %v, not %d, %v", e, after, n, err, want, wantErr)
	}
	return n, err
}

// isPrev holds Prev against the model.
func isPrev(t *testing.T, e cron.Expr, upto, after int) (int, api.Errno) {
	t.Helper()
	n, err := e.Prev(upto, after)
	if want, wantErr := prevOf(e, upto, after); n != want || err != wantErr {
		t.Fatalf("%+v: Prev(%d, %d): %d, %v, not %d, %v", e, upto, after, n, err, want, wantErr)
	}
	return n, err
}

// drawnField is a field as it may be written, of not too many items.
func drawnField(draw *rand.Rand, field int) string {
	if draw.Intn(3) == 0 {
		return "*"
	}
	digits := func(n int) string {
		if n < 10 && draw.Intn(4) == 0 {
			return "0" + num(n)
		}
		return num(n)
	}
	some := func(from int) int {
		if draw.Intn(6) == 0 {
			return []int{from, most[field]}[draw.Intn(2)]
		}
		return from + draw.Intn(most[field]-from+1)
	}
	var items []string
	for range 1 + draw.Intn(4)*draw.Intn(2) {
		n := some(least[field])
		item := digits(n)
		if draw.Intn(3) == 0 {
			item += "-" + digits(some(n))
		}
		items = append(items, item)
	}
	return strings.Join(items, ",")
}

// drawnExpr is an expression as it may be written, of at most 100 bytes.
func drawnExpr(draw *rand.Rand) string {
	for {
		gap := func(n int) string {
			var b strings.Builder
			for range n {
				b.WriteString([]string{" ", "\t"}[draw.Intn(2)])
			}
			return b.String()
		}
		s := gap(draw.Intn(2) * draw.Intn(3))
		for field := range 5 {
			if field > 0 {
				s += gap(1 + draw.Intn(2)*draw.Intn(3))
			}
			s += drawnField(draw, field)
		}
		s += gap(draw.Intn(2) * draw.Intn(3))
		if len(s) <= 100 {
			return s
		}
	}
}

// spoilt is a text with some bytes changed, taken away, or put in.
func spoilt(draw *rand.Rand, s string) string {
	const signs = "0123456789**,,,---  \t\t\n/+?aL\x00\x80\xc3\xff"
	b := []byte(s)
	for range 1 + draw.Intn(3) {
		sign := signs[draw.Intn(len(signs))]
		k := draw.Intn(len(b) + 1)
		switch draw.Intn(3) {
		case 0:
			b = append(b[:k:k], append([]byte{sign}, b[k:]...)...)
		case 1:
			if k < len(b) {
				b[k] = sign
			}
		case 2:
			if k < len(b) {
				b = append(b[:k:k], b[k+1:]...)
			}
		}
	}
	return string(b)
}

// drawnMinute has a date; near the ends at times.
func drawnMinute(draw *rand.Rand) int {
	switch draw.Intn(20) {
	case 0:
		return first + draw.Intn(400*day)
	case 1:
		return last - draw.Intn(400*day)
	}
	return first + draw.Intn(last-first+1)
}

// drawnBits is an expression that Parse would not tell: any bits, any stars.
func drawnBits(draw *rand.Rand) cron.Expr {
	some := func() uint64 {
		switch draw.Intn(6) {
		case 0:
			return 0
		case 1:
			return ^uint64(0)
		case 2:
			return 1 << draw.Intn(64)
		case 3:
			return draw.Uint64() & draw.Uint64() & draw.Uint64()
		}
		return draw.Uint64()
	}
	return cron.Expr{Minute: some(), Hour: some(), Day: some(), Month: some(), Weekday: some(), AnyDay: draw.Intn(2) == 0, AnyWeekday: draw.Intn(2) == 0}
}
