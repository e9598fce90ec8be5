package job_test

import (
	"strings"
	"testing"

	"horologe/api"
	"horologe/job"
)

func isName(t *testing.T, s string, want bool) {
	t.Helper()
	if got := job.Name(s); got != want {
		t.Errorf("Name(%q): %v", s, got)
	}
}

func TestP1701Names(t *testing.T) {
	for _, s := range []string{"a", "z", "0", "9", "a-", "0-", "a--", "a-b", "0-z", "nightly", "7", "007", "a1b2-c3", "z-9", "9-----------------------------"} {
		isName(t, s, true)
	}
	for _, s := range []string{"", "-", "-a", "-0", "--", "--a", " ", " a", "a ", "a b", "a\t", "a\n", "\na", "a/b", "a.b", "a_b", "_", "a,b", "a:b", "a+b", "a*", "*", "A", "Z", "aB", "Ab", "N1", "é", "aé", "éa", "ß", "٣", "a٣", "１", "ａ", "a–b", "a−b", "\x00", "a\x00", "\xff", "a\xff", "\xffa", "\xc3", "a\xc3\xa9", "a\xed\xa0\x80", "\ufeffa", "a\u200b", "\U0001f600"} {
		isName(t, s, false)
	}
}

func TestP1701HowLongNamesAre(t *testing.T) {
	if api.MaxName != 30 {
		t.Fatalf("MaxName: %d", api.MaxName)
	}
	for _, letter := range []string{"a", "z", "0", "9"} {
		for n := range 40 {
			isName(t, strings.Repeat(letter, n), n >= 1 && n <= 30)
			isName(t, letter+strings.Repeat("-", n), n <= 29)
		}
	}
	isName(t, strings.Repeat("a", 29)+"é", false)
	isName(t, strings.Repeat("é", 15), false)
	isName(t, strings.Repeat("a", 1<<20), false)
}

// Each byte, and each rune of two bytes and more whose low byte is a letter's, as the first sign and as a later one.
func TestP1701EachLetter(t *testing.T) {
	for c := range 256 {
		b := string([]byte{byte(c)})
		letter := c >= 'a' && c <= 'z' || c >= '0' && c <= '9'
		isName(t, b, letter)
		isName(t, b+"a", letter)
		isName(t, "a"+b, letter || c == '-')
		isName(t, "a"+b+"a", letter || c == '-')
		for _, high := range []rune{0x100, 0x200, 0x1000, 0x2000, 0x10000, 0x100000} {
			far := string(high + rune(c))
			isName(t, far, false)
			isName(t, "a"+far, false)
			isName(t, far+"a", false)
		}
		if c >= 0x80 {
			isName(t, string(rune(c)), false)
			isName(t, "a"+string(rune(c)), false)
		}
	}
}

func isChecked(t *testing.T, j api.Job, want api.Errno) {
	t.Helper()
	if got := job.Check(j); got != want {
		t.Errorf("Check(%+v): %v, not %v", j, got, want)
	}
}

func TestP1701JobsThatMayBe(t *testing.T) {
	isChecked(t, some(), api.OK)
	isChecked(t, api.Job{Name: "a", Cron: "* * * * *", Deadline: 1}, api.OK)
	isChecked(t, with(func(j *api.Job) { j.Suspend = false }), api.OK)
	isChecked(t, with(func(j *api.Job) { j.Cron = " \t5  *\t* * *  " }), api.OK)
	isChecked(t, with(func(j *api.Job) { j.Cron = "0-59 00 01,1 1-12 0-6" }), api.OK)
	isChecked(t, with(func(j *api.Job) { j.Cron = "0 0 30 2 *" }), api.OK)
	isChecked(t, api.Job{}, api.ErrSpec)
}

// far are numbers beyond all bounds.
var far = []int{-1 << 63, -1 << 62, -1 << 32, -1<<32 + 1, -10081, -100, -1, 10081, 10082, 65536, 1 << 31, 1 << 32, 1<<32 + 1, 1<<32 + 10, 1 << 62, 1<<63 - 1}

func TestP1701EachBoundOfJobs(t *testing.T) {
	for _, x := range []struct {
		field       func(j *api.Job) *int
		least, most int
	}{
		{func(j *api.Job) *int { return &j.Policy }, 0, 2},
		{func(j *api.Job) *int { return &j.Deadline }, 1, 10080},
		{func(j *api.Job) *int { return &j.Keep }, 0, 20},
	} {
		for _, n := range append([]int{x.least - 2, x.least - 1, x.least, x.least + 1, x.most - 1, x.most, x.most + 1, x.most + 2}, far...) {
			j := some()
			*x.field(&j) = n
			want := api.OK
			if n < x.least || n > x.most {
				want = api.ErrSpec
			}
			isChecked(t, j, want)
			j.Cron = "*"
			if want == api.OK {
				want = api.ErrCron
			}
			isChecked(t, j, want)
		}
	}
	if api.Allow != 0 || api.Forbid != 1 || api.Replace != 2 {
		t.Error("the policies are others")
	}
}

func TestP1701NamesOfJobs(t *testing.T) {
	for _, s := range []string{"", "-", "-a", "A", "a b", "é", strings.Repeat("a", 31), "a/b"} {
		isChecked(t, with(func(j *api.Job) { j.Name = s }), api.ErrSpec)
	}
	isChecked(t, with(func(j *api.Job) { j.Name = strings.Repeat("a", 30) }), api.OK)
}

func TestP1701ErrorsOfCron(t *testing.T) {
	for s, want := range map[string]api.Errno{
		"":                                      api.ErrCron,
		"*":                                     api.ErrCron,
		"* * * *":                               api.ErrCron,
		"* * * * * *":                           api.ErrCron,
		"60 * * * *":                            api.ErrCron,
		"*/5 * * * *":                           api.ErrCron,
		"* * * * mon":                           api.ErrCron,
		"5\n* * * *":                            api.ErrCron,
		"\xff * * * *":                          api.ErrCron,
		strings.Repeat(" ", 100):                api.ErrCron,
		strings.Repeat(" ", 101):                api.ErrLong,
		strings.Repeat(" ", 91) + "* * * * *":   api.OK,
		strings.Repeat(" ", 92) + "* * * * *":   api.ErrLong,
		strings.Repeat("1,", 45) + "59 * * * *": api.OK,
		strings.Repeat("x", 1000):               api.ErrLong,
	} {
		isChecked(t, with(func(j *api.Job) { j.Cron = s }), want)
	}
}

// ErrSpec is told ahead of all that Cron's could be.
func TestP6ErrSpecAheadOfErrorsOfCron(t *testing.T) {
	for _, s := range []string{"", "* * * *", strings.Repeat(" ", 101)} {
		for _, change := range []func(j *api.Job){
			func(j *api.Job) { j.Name = "" },
			func(j *api.Job) { j.Name = strings.Repeat("a", 31) },
			func(j *api.Job) { j.Policy = -1 },
			func(j *api.Job) { j.Policy = 3 },
			func(j *api.Job) { j.Deadline = 0 },
			func(j *api.Job) { j.Deadline = 10081 },
			func(j *api.Job) { j.Keep = -1 },
			func(j *api.Job) { j.Keep = 21 },
		} {
			j := with(change)
			isChecked(t, j, api.ErrSpec)
			j.Cron = s
			isChecked(t, j, api.ErrSpec)
		}
	}
}
