package job_test

import (
	"slices"
	"strings"
	"testing"
	"unsafe"

	"horologe/api"
	"horologe/job"
)

// within tells whether a text's bytes are a piece of another one's.
func within(piece, whole string) bool {
	at, from := uintptr(unsafe.Pointer(unsafe.StringData(piece))), uintptr(unsafe.Pointer(unsafe.StringData(whole)))
	return at >= from && at < from+uintptr(len(whole))
}

func TestP2TextsAreNew(t *testing.T) {
	s := strings.Clone("a-1 1 10 3 1 5 * * * *")
	if j, err := job.Parse(s); err != api.OK || within(j.Name, s) || within(j.Cron, s) {
		t.Errorf("%+v, %v: a piece of what was handed in", j, err)
	}
	s = strings.Clone("a-1 5 1 2")
	if r, err := job.ParseRun(s); err != api.OK || within(r.Job, s) {
		t.Errorf("%+v, %v: a piece of what was handed in", r, err)
	}
}

// What is handed to Minutes stays as it was, its spare room too, and is not kept.
func TestP2MinutesChangesNothing(t *testing.T) {
	whole := []int{5, -7, 100, 66, 77}
	l := whole[:3]
	s := job.Minutes(l...)
	if !slices.Equal(whole, []int{5, -7, 100, 66, 77}) {
		t.Errorf("%v", whole)
	}
	for i := range whole {
		whole[i] = 8
	}
	if s != "5 -7 100" || job.Minutes(l...) != "8 8 8" {
		t.Errorf("%q, %q", s, job.Minutes(l...))
	}
}

// What Told tells is the caller's own, its spare room too.
func TestP2ToldIsNew(t *testing.T) {
	const s = "5 -7 100 0 1"
	for range 3 {
		one, _ := job.Told(s)
		two, _ := job.Told(s)
		one = one[:cap(one)]
		for i := range one {
			one[i] = 66
		}
		if !slices.Equal(two, []int{5, -7, 100, 0, 1}) {
			t.Errorf("%v", two)
		}
		isTold(t, s, 5, -7, 100, 0, 1)
	}
}
