package job_test

import (
	"strings"
	"testing"

	"horologe/api"
	"horologe/job"
)

func TestP1703Runs(t *testing.T) {
	if api.Active != 0 || api.Done != 1 || api.Failed != 2 || api.Cancelled != 3 {
		t.Error("the states are others")
	}
	for want, r := range map[string]api.Run{
		"a 0 0 0":                      {Job: "a"},
		"a 100 0 0":                    {Job: "a", Minute: 100},
		"a -1 1 1":                     {Job: "a", Minute: -1, State: api.Done, Agent: 1},
		"a 1 2 9":                      {Job: "a", Minute: 1, State: api.Failed, Agent: 9},
		"a 10 3 10":                    {Job: "a", Minute: 10, State: api.Cancelled, Agent: 10},
		"b-2 -1035593280 3 1073741823": {Job: "b-2", Minute: first, State: api.Cancelled, Agent: 1<<30 - 1},
		"9- -1035593279 2 1073741822":  {Job: "9-", Minute: first + 1, State: api.Failed, Agent: 1<<30 - 2},
		"0 4223371679 1 5":             {Job: "0", Minute: last, State: api.Done, Agent: 5},
		strings.Repeat("z", 30) + " 4223371678 0 0": {Job: strings.Repeat("z", 30), Minute: last - 1},
		"7 29000000 0 7": {Job: "7", Minute: 29000000, Agent: 7},
	} {
		if got := job.EncodeRun(r); got != want {
			t.Errorf("EncodeRun(%+v): %q, not %q", r, got, want)
		}
		isRun(t, want, r)
	}
}

func TestP1703EachBoundOfRuns(t *testing.T) {
	for _, x := range []struct {
		ahead, behind string
		least, most   int
		field         func(r *api.Run) *int
	}{
		{"a ", " 1 2", first, last, func(r *api.Run) *int { return &r.Minute }},
		{"a 5 ", " 2", 0, 3, func(r *api.Run) *int { return &r.State }},
		{"a 5 1 ", "", 0, 1<<30 - 1, func(r *api.Run) *int { return &r.Agent }},
	} {
		for _, n := range []int{x.least - 1440, x.least - 2, x.least - 1, x.least, x.least + 1, x.least + 2, x.most - 1, x.most, x.most + 1, x.most + 2, x.most + 1440, 1 << 31, 1 << 32, 1<<32 + 1, -1 << 32, 1 << 40, -1 << 40, most, -most} {
			s := x.ahead + num(n) + x.behind
			if n < x.least || n > x.most {
				isNoRun(t, s)
				continue
			}
			r := api.Run{Job: "a", Minute: 5, State: 1, Agent: 2}
			*x.field(&r) = n
			isRun(t, s, r)
		}
	}
}

func TestP1703WordsThatAreNone(t *testing.T) {
	whole := []string{"a", "5", "1", "2"}
	spoil := func(at int, word string) {
		t.Helper()
		words := append([]string(nil), whole...)
		words[at] = word
		isNoRun(t, strings.Join(words, " "))
	}
	isRun(t, strings.Join(whole, " "), api.Run{Job: "a", Minute: 5, State: 1, Agent: 2})
	for _, word := range []string{"", "-", "-a", "A", "a_b", "é", "\xff", "a\n", "a\t", strings.Repeat("a", 31), strings.Repeat("a", 1<<16)} {
		spoil(0, word)
	}
	for at, n := range map[int]int{1: 5, 2: 1, 3: 2} {
		for _, word := range numberWords(n) {
			if at > 1 || word != "-5" { // -5 is a minute
				spoil(at, word)
			}
		}
	}
	for _, word := range []string{"-0", "00", "-00", "-05", "+5", "4223371680", "-1035593281", "1000000000000000000", "-1000000000000000000", "9223372036854775807", "-9223372036854775808", "18446744073709551616", "18446744073709551621", "5.", "5,", "٥"} {
		spoil(1, word)
	}
	for _, word := range []string{"4", "5", "9", "10", "-1", "-0", "00", "01", "4294967296", "4294967297", "18446744073709551616", "18446744073709551617", "true", "done"} {
		spoil(2, word)
	}
	for _, word := range []string{"-1", "-2", "-0", "00", "02", "1073741824", "1073741825", "2147483648", "4294967296", "999999999999999999", "1000000000000000000", "18446744073709551616", "18446744073709551618"} {
		spoil(3, word)
	}
}

func TestP1703BlanksAndWords(t *testing.T) {
	const whole = "a 5 1 2"
	for at := range len(whole) {
		if whole[:at] != "" {
			isNoRun(t, whole[:at])
		}
		for _, gap := range []string{" ", "\t", "\n"} {
			isNoRun(t, whole[:at]+gap+whole[at:])
		}
		if whole[at] == ' ' {
			for _, gap := range []string{"", "  ", "\t", " \t", "\n", "\u00a0", "\u2003", ",", "\x00", "_"} {
				isNoRun(t, whole[:at]+gap+whole[at+1:])
			}
		}
	}
	for _, s := range []string{"", " ", "   ", "    ", "a", "a ", "a 5", "a 5 ", "a 5 1", "a 5 1 ", "5 1 2", " 5 1 2", whole + " ", whole + " 0", whole + " 2", whole + "\n", whole + "\x00", " " + whole, "\ufeff" + whole, whole + " " + whole, "a a 5 1 2", "a b 1 2"} {
		isNoRun(t, s)
	}
}

// A text that is cut, of which a byte is turned, or lacks, or is there twice: the model tells which are runs still.
func TestP1703EachByte(t *testing.T) {
	taken := 0
	for _, whole := range []string{"a 100 0 0", "b-2 -1035593280 3 1073741823", "a 4223371679 1 5", "z 4223371679 2 1073741823"} {
		for at := range len(whole) {
			taken += isAsModel(t, whole[:at])
			taken += isAsModel(t, whole[at:])
			taken += isAsModel(t, whole[:at]+whole[at+1:])
			for c := range 256 {
				taken += isAsModel(t, whole[:at]+string([]byte{byte(c)})+whole[at+1:])
				taken += isAsModel(t, whole[:at]+string([]byte{byte(c)})+whole[at:])
			}
		}
	}
	if taken < 1000 {
		t.Errorf("%d were taken: too few to tell", taken)
	}
}
