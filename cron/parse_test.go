package cron_test

import (
	"math/rand"
	"strings"
	"testing"

	"horologe/api"
	"horologe/cron"
)

// isCron asks for an expression.
func isCron(t *testing.T, s string, want cron.Expr) {
	t.Helper()
	if e, err := cron.Parse(s); e != want || err != api.OK {
		t.Errorf("Parse(%q): %+v, %v, not %+v", s, e, err, want)
	}
}

// isNoCron asks that a text is refused.
func isNoCron(t *testing.T, s string, want api.Errno) {
	t.Helper()
	if e, err := cron.Parse(s); e != (cron.Expr{}) || err != want {
		t.Errorf("Parse(%q): %+v, %v, not %v", s, e, err, want)
	}
}

func TestP601Expressions(t *testing.T) {
	isCron(t, "* * * * *", full)
	isCron(t, "0 0 1 1 0", cron.Expr{Minute: 1, Hour: 1, Day: 2, Month: 2, Weekday: 1})
	isCron(t, "59 23 31 12 6", cron.Expr{Minute: 1 << 59, Hour: 1 << 23, Day: 1 << 31, Month: 1 << 12, Weekday: 1 << 6})
	isCron(t, "0 0 29 2 *", cron.Expr{Minute: 1, Hour: 1, Day: 1 << 29, Month: 1 << 2, Weekday: 127, AnyWeekday: true})
	isCron(t, "0 0 * * 5", cron.Expr{Minute: 1, Hour: 1, Day: 1<<32 - 2, Month: 1<<13 - 2, Weekday: 1 << 5, AnyDay: true})
	isCron(t, "0 0 13 * 5", cron.Expr{Minute: 1, Hour: 1, Day: 1 << 13, Month: 1<<13 - 2, Weekday: 1 << 5})
	isCron(t, "5,10-12,7 8-8,9 1-3,2-5 12,1 5,0,3-4", cron.Expr{Minute: 1<<5 | 1<<7 | 7<<10, Hour: 3 << 8, Day: 31 << 1, Month: 1<<1 | 1<<12, Weekday: 1 | 7<<3})
}

// A star among the minutes, hours or months is told by its bits alone.
func TestP601StarsAreToldOfDaysAlone(t *testing.T) {
	for field := range 5 {
		all := num(least[field]) + "-" + num(most[field])
		isCron(t, with(field, all), withBits(field, numbers(field)))
		var each []string
		for n := least[field]; n <= most[field]; n++ {
			each = append(each, num(n))
		}
		if s := with(field, strings.Join(each, ",")); len(s) <= 100 {
			isCron(t, s, withBits(field, numbers(field)))
		}
	}
	isCron(t, "* * 1-31 * 0-6", cron.Expr{Minute: full.Minute, Hour: full.Hour, Day: full.Day, Month: full.Month, Weekday: full.Weekday})
	isCron(t, "0-59 0-23 * 1-12 *", full)
}

func TestP601EveryNumberOfEachField(t *testing.T) {
	for field := range 5 {
		for n := range 100 {
			for _, text := range []string{num(n), "0" + num(n)} {
				switch {
				case len(text) > 2 || n < least[field] || n > most[field]:
					isNoCron(t, with(field, text), api.ErrCron)
				default:
					isCron(t, with(field, text), withBits(field, 1<<n))
				}
			}
		}
	}
}

func TestP601EveryRangeOfEachField(t *testing.T) {
	for field := range 5 {
		for a := range 62 {
			for b := range 62 {
				s := with(field, num(a)+"-"+num(b))
				if a > b || a < least[field] || b > most[field] {
					isNoCron(t, s, api.ErrCron)
					continue
				}
				var bits uint64
				for n := a; n <= b; n++ {
					bits |= 1 << n
				}
				isCron(t, s, withBits(field, bits))
			}
		}
	}
}

func TestP601FieldsThatAreNone(t *testing.T) {
	for _, text := range []string{
		// numbers
		"001", "010", "100", "000", "0001", "99", "+1", "-1", "+01", "1+", "0x1", "1.0", "1e0", "1_1", "a", "mon", "jan", "MON", "L", "?", "#", "@daily", "#1", "1W",
		// items
		",", ",1", "1,", "1,,2", ",,", "1,2,", ",1,2", "1;2", "1.2", "1,a", "a,1", "1,100", "1,001", "1,-", "-,1",
		// ranges
		"-", "1-", "--", "1--2", "-1-2", "1-2-", "1-2-3", "1-2-", "2-1", "1,2-1", "2-1,1", "1-1-1", "1-,2", "1,-2", "1-a", "a-1", "1-002", "001-2", "1-99", "1..2", "1–2", "1~2", "1-+2",
		// stars
		"**", "*,1", "1,*", "*,*", "*1", "1*", "*-2", "1-*", "*-*", "*-", "-*", "*,", ",*", "*/5", "*/1", "1/2", "1-2/1", "/", "1*1", "***",
		// what is no text, or no digit, sign or star of ASCII's
		"\xff", "\x80", "1\xff", "\xff1", "*\xff", "1\xc3", "\xc3\xa9", "\xed\xa0\x80", "\xf8\x88\x80\x80\x80", "\xef\xbf\xbd", "\x00", "1\x00", "\x001", "é", "١", "１", "²", "1２", "＊", "1，2", "1‐2", "1−2", "\u200b1", "\ufeff1", "\U0010ffff", "\x7f", "𝟏",
	} {
		for field := range 5 {
			isNoCron(t, with(field, text), api.ErrCron)
		}
	}
}

// Runes whose low bytes are those of signs that may stand.
func TestP601RunesAreNotTheirLowBytes(t *testing.T) {
	for _, sign := range "*,-0159 \t" {
		for _, high := range []rune{0x80, 0x100, 0x200, 0x1000, 0x10000, 0x100000} {
			far := string(high + sign)
			for field := range 5 {
				isNoCron(t, with(field, far), api.ErrCron)
				isNoCron(t, with(field, "1"+far), api.ErrCron)
				isNoCron(t, with(field, "1"+far+"2"), api.ErrCron)
			}
			isNoCron(t, "1"+far+"* * * *", api.ErrCron)
			isNoCron(t, "* * * * *"+far, api.ErrCron)
			isNoCron(t, far+"* * * * *", api.ErrCron)
		}
	}
}

func TestP601HowManyFields(t *testing.T) {
	for n := range 12 {
		for _, field := range []string{"*", "1", "1-2", "1,2"} {
			for _, ends := range [][2]string{{"", ""}, {" ", ""}, {"", " "}, {"\t", "\t"}, {"  ", " \t "}} {
				s := ends[0] + strings.Join(strings.Fields(strings.Repeat(field+" ", n)), " ") + ends[1]
				if n != 5 {
					isNoCron(t, s, api.ErrCron)
				} else if _, err := cron.Parse(s); err != api.OK {
					t.Errorf("Parse(%q): %v", s, err)
				}
			}
		}
	}
	for _, s := range []string{"", " ", "\t", "   ", "\t\t \t", strings.Repeat(" ", 100), strings.Repeat("\t", 100)} {
		isNoCron(t, s, api.ErrCron)
	}
}

func TestP601BlanksAndTabs(t *testing.T) {
	want := cron.Expr{Minute: 1 << 1, Hour: 1 << 2, Day: 1 << 3, Month: 1 << 4, Weekday: 1 << 5}
	gaps := []string{" ", "\t", "  ", "\t\t", " \t", "\t ", "   \t \t\t  "}
	for _, gap := range gaps {
		isCron(t, strings.Join([]string{"1", "2", "3", "4", "5"}, gap), want)
		isCron(t, gap+"1 2 3 4 5", want)
		isCron(t, "1 2 3 4 5"+gap, want)
		isCron(t, gap+strings.Join([]string{"1", "2", "3", "4", "5"}, gap)+gap, want)
		isCron(t, gap+"*"+gap+"*"+gap+"*"+gap+"*"+gap+"*"+gap, full)
		for _, s := range []string{"1" + gap + ",2 * * * *", "1," + gap + "2 * * * *", "1" + gap + "-2 * * * *", "1-" + gap + "2 * * * *"} {
			isNoCron(t, s, api.ErrCron)
		}
	}
	isNoCron(t, "12345", api.ErrCron)
	isNoCron(t, "*****", api.ErrCron)
}

func TestP601OtherSignsBetweenFields(t *testing.T) {
	for _, gap := range []string{"", "\n", "\r", "\r\n", "\v", "\f", "\x00", "\b", "\x1f", "\x85", "\xa0", "\u0085", "\u00a0", "\u1680", "\u2000", "\u2003", "\u2028", "\u3000", "\ufeff", ",", ";", "_", ".", "/", "-", ":", " \n", "\n ", " \n ", " , ", " ; "} {
		isNoCron(t, strings.Join([]string{"1", "2", "3", "4", "5"}, gap), api.ErrCron)
		isNoCron(t, strings.Join([]string{"*", "*", "*", "*", "*"}, gap), api.ErrCron)
		if gap != "" {
			isNoCron(t, gap+"1 2 3 4 5", api.ErrCron)
			isNoCron(t, "1 2 3 4 5"+gap, api.ErrCron)
			isNoCron(t, "* * * * *"+gap, api.ErrCron)
			isNoCron(t, gap+"* * * * *", api.ErrCron)
		}
		isNoCron(t, "1"+gap+"2 3 4 5", api.ErrCron)
	}
}

func TestP601HowLong(t *testing.T) {
	if api.MaxCron != 100 {
		t.Fatalf("MaxCron: %d", api.MaxCron)
	}
	fill := func(ahead, sign, behind string, n int) string {
		return ahead + strings.Repeat(sign, n-len(ahead)-len(behind)) + behind
	}
	for _, x := range [][3]string{{"", " ", "* * * * *"}, {"* * * * *", " ", ""}, {"* *", "\t", "* * *"}} {
		isCron(t, fill(x[0], x[1], x[2], 99), full)
		isCron(t, fill(x[0], x[1], x[2], 100), full)
		isNoCron(t, fill(x[0], x[1], x[2], 101), api.ErrLong)
		isNoCron(t, fill(x[0], x[1], x[2], 102), api.ErrLong)
	}
	for _, sign := range []string{"x", "*", " ", "1", ",", "-", "\xff", "\x00", "\n"} {
		isNoCron(t, strings.Repeat(sign, 100), api.ErrCron)
		isNoCron(t, strings.Repeat(sign, 101), api.ErrLong)
		isNoCron(t, strings.Repeat(sign, 1000), api.ErrLong)
	}
	isNoCron(t, strings.Repeat("* ", 50), api.ErrCron)
	isNoCron(t, strings.Repeat("* ", 51), api.ErrLong)
	isNoCron(t, strings.Repeat(" ", 1<<20), api.ErrLong)
}

// Bytes are counted, not runes.
func TestP601HowLongInBytes(t *testing.T) {
	isNoCron(t, strings.Repeat("é", 50), api.ErrCron)
	isNoCron(t, strings.Repeat("é", 51), api.ErrLong)
	isNoCron(t, "x"+strings.Repeat("☃", 33), api.ErrCron)
	isNoCron(t, "xx"+strings.Repeat("☃", 33), api.ErrLong)
	isNoCron(t, strings.Repeat("𝟏", 25), api.ErrCron)
	isNoCron(t, strings.Repeat("𝟏", 26), api.ErrLong)
}

// The most items that an expression has room for: all of them are read.
func TestP601ManyItems(t *testing.T) {
	s := strings.Repeat("1,", 45) + "59 * * * *"
	if len(s) != 100 {
		t.Fatalf("%d bytes", len(s))
	}
	isCron(t, s, withBits(0, 1<<1|1<<59))
	isNoCron(t, s[1:]+" ", api.ErrCron) // a `,` ahead
	isNoCron(t, strings.Repeat("1,", 45)+"60 * * * *", api.ErrCron)
	isNoCron(t, "60,"+strings.Repeat("1,", 44)+"1 * * * *", api.ErrCron)
}

func TestP601DrawnExpressions(t *testing.T) {
	draw := rand.New(rand.NewSource(601))
	for range 100000 {
		if _, err := isParsed(t, drawnExpr(draw)); err != api.OK {
			t.Fatal("the model refuses what is drawn")
		}
	}
}

func TestP601DrawnTextsThatMayBeNone(t *testing.T) {
	draw := rand.New(rand.NewSource(602))
	refused := 0
	for range 300000 {
		if _, err := isParsed(t, spoilt(draw, drawnExpr(draw))); err != api.OK {
			refused++
		}
	}
	if refused < 30000 || refused > 270000 {
		t.Errorf("%d of 300000 were refused: too few, or too many, to tell", refused)
	}
}

// All texts of a few signs, one field's worth, in the place of each field.
func TestP601AllShortFields(t *testing.T) {
	signs := []string{"0", "1", "2", "6", "9", "*", ",", "-", " "}
	var grow func(s string, n int)
	grow = func(s string, n int) {
		for field := range 5 {
			isParsed(t, with(field, s))
		}
		if n > 0 {
			for _, sign := range signs {
				grow(s+sign, n-1)
			}
		}
	}
	grow("", 5)
}

func FuzzParse(f *testing.F) {
	for _, s := range []string{"* * * * *", "0 0 29 2 *", "  5 *\t* * *  ", "1,2,3-5 0-23 1-31 1-12 0-6", "1- * * * *", "\xff * * * *", strings.Repeat(" ", 101)} {
		f.Add(s)
	}
	f.Fuzz(func(t *testing.T, s string) {
		e, err := isParsed(t, s)
		if err != api.OK {
			return
		}
		if f, err := cron.Parse(e.Text()); f != e || err != api.OK {
			t.Errorf("Parse(%q): %+v, %v, not %+v", e.Text(), f, err, e)
		}
	})
}
