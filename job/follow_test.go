package job_test

import (
	"math/rand"
	"slices"
	"strings"
	"testing"

	"horologe/api"
	"horologe/cron"
	"horologe/job"
)

// isJobBack asks that a job that Check allows is parsed as it was encoded, its Cron by its Text.
func isJobBack(t *testing.T, j api.Job) {
	t.Helper()
	if err := job.Check(j); err != api.OK {
		t.Fatalf("Check(%+v): %v", j, err)
	}
	e, _ := cron.Parse(j.Cron)
	want := j
	want.Cron = e.Text()
	isParsed(t, job.Encode(j), want)
	isEncoded(t, want, job.Encode(j))
}

func TestP1705JobsThereAndBack(t *testing.T) {
	isJobBack(t, some())
	isJobBack(t, api.Job{Name: "a", Cron: "  0-59 00 * 1-12\t*", Deadline: 1})
	draw := rand.New(rand.NewSource(1702))
	for range 30000 {
		j := drawnJob(draw)
		if len(j.Cron) <= api.MaxCron {
			isJobBack(t, j)
		}
	}
}

func TestP1705RunsThereAndBack(t *testing.T) {
	draw := rand.New(rand.NewSource(1703))
	for range 30000 {
		r := drawnRun(draw)
		isRun(t, job.EncodeRun(r), r)
	}
}

func TestP1705NumbersThereAndBack(t *testing.T) {
	draw := rand.New(rand.NewSource(1704))
	for range 30000 {
		l := drawnNumbers(draw)
		isTold(t, job.Minutes(l...), l...)
	}
	many := make([]int, 100000)
	for i := range many {
		many[i] = drawnNumber(draw)
	}
	isTold(t, job.Minutes(many...), many...)
}

// drawnText is of a job, a run, or numbers, or nearly so.
func drawnText(draw *rand.Rand) string {
	var s string
	switch draw.Intn(3) {
	case 0:
		s = job.Encode(drawnJob(draw))
	case 1:
		s = job.EncodeRun(drawnRun(draw))
	case 2:
		s = job.Minutes(drawnNumbers(draw)...)
	}
	if draw.Intn(4) > 0 {
		s = spoilt(draw, s)
	}
	return s
}

// isToldAgain asks that what a call takes is what its other one makes of what it tells.
func isToldAgain(t *testing.T, s string) {
	t.Helper()
	if j, err := job.Parse(s); err == api.OK && (job.Check(j) != api.OK || job.Encode(j) != s) {
		t.Errorf("Parse(%q): %+v, which is %q", s, j, job.Encode(j))
	}
	if r, err := job.ParseRun(s); err == api.OK && job.EncodeRun(r) != s {
		t.Errorf("ParseRun(%q): %+v, which is %q", s, r, job.EncodeRun(r))
	}
	if l, err := job.Told(s); err == api.OK && job.Minutes(l...) != s {
		t.Errorf("Told(%q): %v, which is %q", s, l, job.Minutes(l...))
	}
}

func TestP1705DrawnTexts(t *testing.T) {
	draw := rand.New(rand.NewSource(1705))
	taken, texts := 0, 200000
	for range texts {
		s := drawnText(draw)
		taken += isAsModel(t, s)
		isToldAgain(t, s)
	}
	if taken < texts/5 || taken > texts*4/5 {
		t.Errorf("%d of %d were taken: too few, or too many, to tell", taken, texts)
	}
}

// odd are texts that are no names, no expressions, no jobs.
func odd() []string {
	return []string{"", " ", "-", "a", "a b", "\x00", "\xff\xfe", "é", "a 1 10 3 0 ", strings.Repeat(" ", 1<<20), strings.Repeat("1 ", 1<<19), strings.Repeat("9", 1<<20), strings.Repeat("-", 1<<20), strings.Repeat("\xff", 1<<20), strings.Repeat("a", 1<<20) + " 1 0 0", "a " + strings.Repeat("0", 1<<20) + " 0 0", "a 1 10 3 0 " + strings.Repeat("* ", 1<<19)}
}

// Whatever is handed in, also where it may not be (P8), each call ends.
func TestP1NothingPanics(t *testing.T) {
	numbers := append([]int{0, 1, -1, first, last, first - 1, last + 1, -2e9, -2e9 - 1, most, -most, most + 1, -most - 1, 1<<63 - 1 - 2e9, 1<<63 - 2e9}, far...)
	for _, s := range odd() {
		job.Name(s)
		job.Parse(s)
		job.ParseRun(s)
		job.Told(s)
		job.Key(s)
		job.LastKey(s)
		job.ActKey(s)
		for _, n := range []int{0, 1 << 62, -1 << 63} {
			j := api.Job{Name: s, Cron: s, Policy: n, Deadline: n, Keep: n}
			job.Check(j)
			job.Encode(j)
			job.RunKey(s, n)
			job.EncodeRun(api.Run{Job: s, Minute: n, State: n, Agent: n})
		}
	}
	for _, n := range numbers {
		job.RunKey("a", n)
		job.Minutes(n, n)
		job.EncodeRun(api.Run{Job: "a", Minute: n, State: n, Agent: n})
		job.Check(api.Job{Name: "a", Cron: "* * * * *", Policy: n, Deadline: n, Keep: n})
		job.Encode(api.Job{Name: "a", Cron: "* * * * *", Policy: n, Deadline: n, Keep: n})
		isAsModel(t, num(n))
		isAsModel(t, "a "+num(n)+" 0 0")
	}
}

// A long text is refused for what it is, at any length.
func TestP1LongTexts(t *testing.T) {
	for _, s := range odd() {
		isAsModel(t, s)
	}
}

func TestP3TheSameAgain(t *testing.T) {
	draw := rand.New(rand.NewSource(3))
	for range 2000 {
		s := drawnText(draw)
		j, err := job.Parse(s)
		r, runErr := job.ParseRun(s)
		l, toldErr := job.Told(s)
		job.Parse(drawnText(draw))
		job.Told(drawnText(draw))
		if again, e := job.Parse(s); again != j || e != err {
			t.Errorf("Parse(%q): %+v, then %+v", s, j, again)
		}
		if again, e := job.ParseRun(s); again != r || e != runErr {
			t.Errorf("ParseRun(%q): %+v, then %+v", s, r, again)
		}
		if again, e := job.Told(s); !slices.Equal(again, l) || e != toldErr {
			t.Errorf("Told(%q): %v, then %v", s, l, again)
		}
	}
}

func FuzzParse(f *testing.F) {
	for _, s := range []string{"a 1 10 3 0 5 * * * *", "x-9 2 10080 20 1 1-3,9 0 13 * 5", "a 100 0 0", "b-2 -1035593280 3 1073741823", "", "5 -7 999999999999999999", "a 01 10 3 0 5 * * * *", "1  2", "-0"} {
		f.Add(s)
	}
	f.Fuzz(func(t *testing.T, s string) {
		isAsModel(t, s)
		isToldAgain(t, s)
	})
}
