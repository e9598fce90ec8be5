package job_test

import (
	"math/rand"
	"regexp"
	"slices"
	"strconv"
	"strings"
	"testing"

	"horologe/api"
	"horologe/cron"
	"horologe/job"
)

// The first and the last minute that have a date.
const (
	first = -1035593280
	last  = 4223371679
)

// most is the greatest number that a text can tell, lowest the least one.
const (
	most   = 999999999999999999
	lowest = -most
)

func num(n int) string { return strconv.Itoa(n) }

// some is a job that may be, no field of which has its zero value.
func some() api.Job {
	return api.Job{Name: "a-1", Cron: "5 * * * *", Policy: api.Forbid, Deadline: 10, Keep: 3, Suspend: true}
}

// with is some, changed.
func with(change func(j *api.Job)) api.Job {
	j := some()
	change(&j)
	return j
}

func isParsed(t *testing.T, s string, want api.Job) {
	t.Helper()
	if j, err := job.Parse(s); j != want || err != api.OK {
		t.Errorf("Parse(%q): %+v, %v, not %+v", s, j, err, want)
	}
}

func isNoJob(t *testing.T, s string) {
	t.Helper()
	if j, err := job.Parse(s); j != (api.Job{}) || err != api.ErrBad {
		t.Errorf("Parse(%q): %+v, %v", s, j, err)
	}
}

func isRun(t *testing.T, s string, want api.Run) {
	t.Helper()
	if r, err := job.ParseRun(s); r != want || err != api.OK {
		t.Errorf("ParseRun(%q): %+v, %v, not %+v", s, r, err, want)
	}
}

func isNoRun(t *testing.T, s string) {
	t.Helper()
	if r, err := job.ParseRun(s); r != (api.Run{}) || err != api.ErrBad {
		t.Errorf("ParseRun(%q): %+v, %v", s, r, err)
	}
}

func isTold(t *testing.T, s string, want ...int) {
	t.Helper()
	if l, err := job.Told(s); !slices.Equal(l, want) || err != api.OK {
		t.Errorf("Told(%q): %v, %v, not %v", s, l, err, want)
	}
}

func isNotTold(t *testing.T, s string) {
	t.Helper()
	if l, err := job.Told(s); len(l) != 0 || err != api.ErrBad {
		t.Errorf("Told(%q): %v, %v", s, l, err)
	}
}

// The model: what the texts look like, but for the bounds of their numbers.
var (
	nameForm   = regexp.MustCompile(`^[a-z0-9][a-z0-9-]{0,29}$`)
	numberForm = regexp.MustCompile(`^(0|-?[1-9][0-9]{0,17})$`)
	jobForm    = regexp.MustCompile(`^([a-z0-9][a-z0-9-]{0,29}) ([012]) ([1-9][0-9]{0,4}) (0|[1-9][0-9]?) ([01]) (.{9,100})$`)
	runForm    = regexp.MustCompile(`^([a-z0-9][a-z0-9-]{0,29}) (0|-?[1-9][0-9]{0,9}) ([0-3]) (0|[1-9][0-9]{0,9})$`)
)

// numberOf is a text of digits; that it is one the forms have asked.
func numberOf(s string) int {
	n, _ := strconv.Atoi(s)
	return n
}

// modelJob tells what Parse should.
func modelJob(s string) (api.Job, api.Errno) {
	found := jobForm.FindStringSubmatch(s)
	if found == nil {
		return api.Job{}, api.ErrBad
	}
	j := api.Job{Name: found[1], Policy: numberOf(found[2]), Deadline: numberOf(found[3]), Keep: numberOf(found[4]), Suspend: found[5] == "1", Cron: found[6]}
	e, err := cron.Parse(j.Cron)
	if err != api.OK || e.Text() != j.Cron || j.Deadline > 10080 || j.Keep > 20 {
		return api.Job{}, api.ErrBad
	}
	return j, api.OK
}

// modelRun tells what ParseRun should.
func modelRun(s string) (api.Run, api.Errno) {
	found := runForm.FindStringSubmatch(s)
	if found == nil {
		return api.Run{}, api.ErrBad
	}
	r := api.Run{Job: found[1], Minute: numberOf(found[2]), State: numberOf(found[3]), Agent: numberOf(found[4])}
	if r.Minute < first || r.Minute > last || r.Agent >= 1<<30 {
		return api.Run{}, api.ErrBad
	}
	return r, api.OK
}

// modelTold tells what Told should.
func modelTold(s string) ([]int, api.Errno) {
	var l []int
	if s == "" {
		return l, api.OK
	}
	for _, word := range strings.Split(s, " ") {
		if !numberForm.MatchString(word) {
			return nil, api.ErrBad
		}
		l = append(l, numberOf(word))
	}
	return l, api.OK
}

// isAsModel holds the three calls that read a text against the model; it tells how many of them took it.
func isAsModel(t *testing.T, s string) int {
	t.Helper()
	j, err := job.Parse(s)
	wantJob, wantErr := modelJob(s)
	if j != wantJob || err != wantErr {
		t.Errorf("Parse(%q): %+v, %v, not %+v, %v", s, j, err, wantJob, wantErr)
	}
	taken := 0
	if err == api.OK {
		taken++
	}
	r, err := job.ParseRun(s)
	wantRun, wantErr := modelRun(s)
	if r != wantRun || err != wantErr {
		t.Errorf("ParseRun(%q): %+v, %v, not %+v, %v", s, r, err, wantRun, wantErr)
	}
	if err == api.OK {
		taken++
	}
	l, err := job.Told(s)
	wantTold, wantErr := modelTold(s)
	if !slices.Equal(l, wantTold) || err != wantErr {
		t.Errorf("Told(%q): %v, %v, not %v, %v", s, l, err, wantTold, wantErr)
	}
	if err == api.OK {
		taken++
	}
	return taken
}

// pick is one of some, as drawn.
func pick[T any](draw *rand.Rand, l ...T) T { return l[draw.Intn(len(l))] }

func drawnName(draw *rand.Rand) string {
	const letters = "abcmyz0189-"
	b := []byte{letters[draw.Intn(len(letters)-1)]}
	for range draw.Intn(pick(draw, 1, 4, 30)) {
		b = append(b, letters[draw.Intn(len(letters))])
	}
	return string(b)
}

// drawnField is a field of a cron expression, not always as its Text is.
func drawnField(draw *rand.Rand, least, most int) string {
	if draw.Intn(3) == 0 {
		return "*"
	}
	var items []string
	for range 1 + draw.Intn(3) {
		from := least + draw.Intn(most-least+1)
		to := from + draw.Intn(most-from+1)
		items = append(items, pick(draw, num(from), num(from), num(from)+"-"+num(to), num(least)+"-"+num(most)))
		if draw.Intn(8) == 0 && to < 10 {
			items = append(items, "0"+num(to))
		}
	}
	return strings.Join(items, ",")
}

func drawnCron(draw *rand.Rand) string {
	gap := pick(draw, " ", " ", "  ", "\t")
	return strings.Join([]string{drawnField(draw, 0, 59), drawnField(draw, 0, 23), drawnField(draw, 1, 31), drawnField(draw, 1, 12), drawnField(draw, 0, 6)}, gap)
}

// drawnJob is a job that Check allows.
func drawnJob(draw *rand.Rand) api.Job {
	return api.Job{
		Name:     drawnName(draw),
		Cron:     drawnCron(draw),
		Policy:   draw.Intn(3),
		Deadline: pick(draw, 1, 10080, 1+draw.Intn(10080)),
		Keep:     draw.Intn(21),
		Suspend:  draw.Intn(2) == 0,
	}
}

func drawnMinute(draw *rand.Rand) int {
	return pick(draw, 0, -1, 1, first, last, first+draw.Intn(last-first+1), draw.Intn(40000000))
}

// drawnRun is a run that ParseRun allows.
func drawnRun(draw *rand.Rand) api.Run {
	return api.Run{Job: drawnName(draw), Minute: drawnMinute(draw), State: draw.Intn(4), Agent: pick(draw, 0, 1, 1<<30-1, draw.Intn(1<<30))}
}

// drawnNumber is one that a text can tell.
func drawnNumber(draw *rand.Rand) int {
	n := pick(draw, 0, 1, -1, 9, 10, 99999999999999999, 100000000000000000, most, draw.Intn(most), draw.Intn(1000))
	return n * pick(draw, 1, -1)
}

func drawnNumbers(draw *rand.Rand) []int {
	var l []int
	for range draw.Intn(6) {
		l = append(l, drawnNumber(draw))
	}
	return l
}

// spoilt is a text of which some signs lack, are others, or are one more.
func spoilt(draw *rand.Rand, s string) string {
	b := []byte(s)
	for range 1 + draw.Intn(2) {
		at := draw.Intn(len(b) + 1)
		sign := pick(draw, ' ', '-', '0', '1', '9', 'a', 'A', '*', ',', '+', '\t', '\n', 0, 0x80, 0xff, byte(draw.Intn(256)))
		switch {
		case draw.Intn(3) == 0 || at == len(b):
			b = slices.Insert(b, at, sign)
		case draw.Intn(2) == 0:
			b[at] = sign
		default:
			b = slices.Delete(b, at, at+1)
		}
	}
	return string(b)
}
