package cron_test

import (
	"math/rand"
	"strings"
	"testing"

	"horologe/api"
	"horologe/cron"
)

// isText asks for the Text of what Parse tells.
func isText(t *testing.T, s, want string) {
	t.Helper()
	if got := must(t, s).Text(); got != want {
		t.Errorf("Text of %q: %q, not %q", s, got, want)
	}
}

func TestP602Texts(t *testing.T) {
	for s, want := range map[string]string{
		"* * * * *":                      "* * * * *",
		"\t *  *\t\t* * *  ":             "* * * * *",
		"00 07 01 09 06":                 "0 7 1 9 6",
		"0 0 29 2 *":                     "0 0 29 2 *",
		"0 0 13 * 5":                     "0 0 13 * 5",
		"9,8,7 3,1,2 31,30 12,1 6,0":     "7-9 1-3 30-31 1,12 0,6",
		"1,2 1,3 1,2 1,3 1,2":            "1-2 1,3 1-2 1,3 1-2",
		"5-10,7-20,21 0-5,3 1-1 2-2 3-3": "5-21 0-5 1 2 3",
		"5,5,5 6,6 7,7 8,8 4,4":          "5 6 7 8 4",
		"9-10,12 9,10 9-11 9,11 5-6":     "9-10,12 9-10 9-11 9,11 5-6",
	} {
		isText(t, s, want)
	}
}

// All numbers of a field: a star, but of days only where it was one.
func TestP602AllAreAllowed(t *testing.T) {
	isText(t, "0-59 0-23 1-31 1-12 0-6", "* * 1-31 * 0-6")
	isText(t, "0-29,30-59 12-23,0-11 16-31,1-15 7-12,1-6 0,1,2,3,4,5,6", "* * 1-31 * 0-6")
	for field, want := range []string{"*", "*", "1-31", "*", "0-6"} {
		isText(t, with(field, num(least[field])+"-"+num(most[field])), with(field, want))
	}
}

// One number lacks, at each place of each field.
func TestP602AllButOne(t *testing.T) {
	for field := range 5 {
		lo, hi := least[field], most[field]
		for n := lo; n <= hi; n++ {
			var runs []string
			if n > lo {
				runs = append(runs, runText(lo, n-1))
			}
			if n < hi {
				runs = append(runs, runText(n+1, hi))
			}
			s := with(field, strings.Join(runs, ","))
			isText(t, s, s)
		}
	}
}

func runText(a, b int) string {
	if a == b {
		return num(a)
	}
	return num(a) + "-" + num(b)
}

// Runs of one, of two and of more numbers, at each place of each field, both ends too; written as a range, and one by one.
func TestP602RunsAtEachPlace(t *testing.T) {
	for field := range 5 {
		for a := least[field]; a <= most[field]; a++ {
			for b := a; b <= most[field] && b < a+5; b++ {
				want := with(field, runText(a, b))
				isText(t, with(field, num(a)+"-"+num(b)), want)
				var each []string
				for n := b; n >= a; n-- {
					each = append(each, num(n))
				}
				isText(t, with(field, strings.Join(each, ",")), want)
			}
		}
	}
}

// Two runs with one number that lacks between.
func TestP602TwoRuns(t *testing.T) {
	for field := range 5 {
		for a := least[field]; a <= most[field]; a++ {
			for b := a; b+2 <= most[field]; b++ {
				for _, c := range []int{b + 2, most[field]} {
					want := with(field, runText(a, b)+","+runText(b+2, c))
					isText(t, with(field, num(b+2)+"-"+num(c)+","+num(a)+"-"+num(b)), want)
				}
			}
		}
	}
}

// textOf tells what Text should, by going through a field's bits as a text of noughts and ones.
func textOf(e cron.Expr) string {
	var out []string
	for field := range 5 {
		var marks strings.Builder
		for n := range 66 {
			if n < 64 && has(*bitsOf(&e, field), n) {
				marks.WriteByte('1')
			} else {
				marks.WriteByte('0')
			}
		}
		var runs []string
		for rest, gone := marks.String(), 0; ; {
			a := strings.IndexByte(rest, '1')
			if a < 0 {
				break
			}
			b := a + strings.IndexByte(rest[a:], '0')
			runs = append(runs, runText(gone+a, gone+b-1))
			rest, gone = rest[b:], gone+b
		}
		text := strings.Join(runs, ",")
		star := text == runText(least[field], most[field])
		if field == 2 {
			star = e.AnyDay
		}
		if field == 4 {
			star = e.AnyWeekday
		}
		if star {
			text = "*"
		}
		out = append(out, text)
	}
	return strings.Join(out, " ")
}

func TestP602DrawnExpressions(t *testing.T) {
	draw := rand.New(rand.NewSource(602))
	for range 100000 {
		s := drawnExpr(draw)
		e := must(t, s)
		if got, want := e.Text(), textOf(e); got != want {
			t.Fatalf("Text of %q: %q, not %q", s, got, want)
		}
	}
}

// P605: and it is never longer than what was parsed, so that it can be parsed, too.
func TestP605ParseOfTextIsTheSame(t *testing.T) {
	draw := rand.New(rand.NewSource(605))
	for range 100000 {
		s := drawnExpr(draw)
		e := must(t, s)
		text := e.Text()
		if f, err := cron.Parse(text); f != e || err != api.OK || len(text) > len(s) {
			t.Fatalf("%q: %+v: Parse(%q): %+v, %v", s, e, text, f, err)
		}
		if again := must(t, text).Text(); again != text {
			t.Fatalf("%q: Text %q, and then %q", s, text, again)
		}
	}
}

// Expressions that fill all of their room, with as many runs as can be.
func TestP605ParseOfLongTexts(t *testing.T) {
	for _, s := range []string{
		"10,12,14,16,18,20,22,24,26,28,30,32,34,36,38,40,42,44,46,48,50,52,54,56,58,1,3,5,7,9 10 10 10 *     ",
		"0-1,3-4,6-7,9-10,12-13,15-16,18-19,21-22,24-25,27-28,30-31,33-34,36-37,39-40,42-43,45 0-22 10 10 0-5",
		"58-59,55-56,52-53,49-50,46-47,43-44,40-41,37-38,34-35,31-32,28-29,25-26,22-23,19-20 1-23 1-30 2-12 1",
	} {
		if len(s) != 100 {
			t.Fatalf("%q: %d bytes", s, len(s))
		}
		e := must(t, s)
		if f, err := cron.Parse(e.Text()); f != e || err != api.OK {
			t.Errorf("%q: Parse(%q): %+v, %v, not %+v", s, e.Text(), f, err, e)
		}
	}
}

// P1, P8: of what Parse does not tell Text answers something.
func TestP1TextOfWhateverBits(t *testing.T) {
	draw := rand.New(rand.NewSource(1))
	for range 10000 {
		e := drawnBits(draw)
		if e.Text() != e.Text() {
			t.Fatalf("%+v: two texts", e)
		}
	}
	_ = cron.Expr{}.Text()
}
