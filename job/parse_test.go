package job_test

import (
	"strings"
	"testing"

	"horologe/api"
	"horologe/job"
)

func isEncoded(t *testing.T, j api.Job, want string) {
	t.Helper()
	if got := job.Encode(j); got != want {
		t.Errorf("Encode(%+v): %q, not %q", j, got, want)
	}
}

// TestP1702TheExample is the chapter's.
func TestP1702TheExample(t *testing.T) {
	isEncoded(t, api.Job{Name: "a", Cron: "5 *  * * *", Policy: api.Forbid, Deadline: 10, Keep: 3}, "a 1 10 3 0 5 * * * *")
	isParsed(t, "a 1 10 3 0 5 * * * *", api.Job{Name: "a", Cron: "5 * * * *", Policy: api.Forbid, Deadline: 10, Keep: 3})
}

// Each field at its edges, there and back.
func TestP1702EachField(t *testing.T) {
	long := strings.Repeat("z", 30)
	full := strings.Repeat("1,", 45) + "59 * * * *"
	for want, j := range map[string]api.Job{
		"a-1 1 10 3 1 5 * * * *":                some(),
		"a-1 1 10 3 0 5 * * * *":                with(func(j *api.Job) { j.Suspend = false }),
		"0 1 10 3 1 5 * * * *":                  with(func(j *api.Job) { j.Name = "0" }),
		"z- 1 10 3 1 5 * * * *":                 with(func(j *api.Job) { j.Name = "z-" }),
		long + " 1 10 3 1 5 * * * *":            with(func(j *api.Job) { j.Name = long }),
		"a-1 0 10 3 1 5 * * * *":                with(func(j *api.Job) { j.Policy = api.Allow }),
		"a-1 2 10 3 1 5 * * * *":                with(func(j *api.Job) { j.Policy = api.Replace }),
		"a-1 1 1 3 1 5 * * * *":                 with(func(j *api.Job) { j.Deadline = 1 }),
		"a-1 1 9 3 1 5 * * * *":                 with(func(j *api.Job) { j.Deadline = 9 }),
		"a-1 1 10079 3 1 5 * * * *":             with(func(j *api.Job) { j.Deadline = 10079 }),
		"a-1 1 10080 3 1 5 * * * *":             with(func(j *api.Job) { j.Deadline = 10080 }),
		"a-1 1 10 0 1 5 * * * *":                with(func(j *api.Job) { j.Keep = 0 }),
		"a-1 1 10 20 1 5 * * * *":               with(func(j *api.Job) { j.Keep = 20 }),
		"a-1 1 10 3 1 * * * * *":                with(func(j *api.Job) { j.Cron = "\t* * *\t* *  " }),
		"a-1 1 10 3 1 1-3,9 0 13 * 5":           with(func(j *api.Job) { j.Cron = "9,1,2,03 00 13 1-12 5-5" }),
		"a-1 1 10 3 1 * * 1-31 * 0-6":           with(func(j *api.Job) { j.Cron = "0-59 0-23 1-31 1-12 0-6" }),
		"a-1 1 10 3 1 1,59 * * * *":             with(func(j *api.Job) { j.Cron = full }),
		"a 0 1 0 0 0 0 1 1 0":                   {Name: "a", Cron: "0 0 1 1 0", Deadline: 1},
		long + " 2 10080 20 1 59 23 31 12 6":    {Name: long, Cron: "59 23 31 12 6", Policy: 2, Deadline: 10080, Keep: 20, Suspend: true},
		"0 2 10080 20 1 0,2,4,6,8 0,2,4 1 1 0":  {Name: "0", Cron: "0,2,4,6,8 0,2,4 1 1 0", Policy: 2, Deadline: 10080, Keep: 20, Suspend: true},
		"1 1 1 1 1 1 1 1 1 1":                   {Name: "1", Cron: "1 1 1 1 1", Policy: 1, Deadline: 1, Keep: 1, Suspend: true},
		"0-0 0 1000 10 0 1-2,4-5,7-8 1-2 * * *": {Name: "0-0", Cron: "1-2,4-5,7-8 1-2 * * *", Deadline: 1000, Keep: 10},
	} {
		isEncoded(t, j, want)
		words := strings.SplitN(want, " ", 6)
		j.Cron = words[5]
		isParsed(t, want, j)
		isEncoded(t, j, want)
	}
}

// A Cron of MaxCron bytes that is its own Text has room, a longer one has none.
func TestP1702TheLongestCron(t *testing.T) {
	var odd []string
	for n := 1; n < 60; n += 2 {
		odd = append(odd, num(n))
	}
	for rest, size := range map[string]int{" 1,3,5,7 11 1 1": 99, " 1,3,5,7 11 11 1": 100, " 1,3,5,7 11 1 1,3": 101, " 1,3,5,7 11 11 1,3": 102} {
		j := with(func(j *api.Job) { j.Cron = strings.Join(odd, ",") + rest })
		if len(j.Cron) != size {
			t.Fatalf("%q has %d bytes", j.Cron, len(j.Cron))
		}
		s := "a-1 1 10 3 1 " + j.Cron
		if size > api.MaxCron {
			isNoJob(t, s)
			continue
		}
		isEncoded(t, j, s)
		isParsed(t, s, j)
	}
}

// numberWords are ways to write a number that are not its one.
func numberWords(n int) []string {
	s := num(n)
	return []string{"0" + s, "00" + s, "+" + s, "-" + s, "--" + s, s + "-", s + "+", "0x" + s, s + ".0", s + ".", s + "e0", s + "_", "_" + s, s + ",", "'" + s, "(" + s + ")", s + "\x00", s + "\n", s + "\t", "\t" + s, s + "\xff", s + "é", string(rune(0x660 + n%10)), string(rune(0xff10 + n%10)), string(rune('0'+n%10) + 0x100), strings.Repeat("0", 17) + s, strings.Repeat("0", 30) + s, "", "-", "+", "x", "a", "*"}
}

// beyond are numbers that none of the fields may be.
var beyond = []string{"-1", "-2", "10081", "99999", "100000", "2147483648", "4294967296", "4294967297", "4294967306", "99999999999999999", "999999999999999999", "1000000000000000000", "-999999999999999999", "-1000000000000000000", "9223372036854775807", "9223372036854775808", "18446744073709551615", "18446744073709551616", "18446744073709551617", "18446744073709551619", "18446744073709551626", "340282366920938463463374607431768211457", "1" + strings.Repeat("0", 100)}

func TestP1702WordsThatAreNone(t *testing.T) {
	whole := []string{"a", "1", "10", "3", "1", "5", "*", "*", "*", "*"}
	spoil := func(at int, word string) {
		t.Helper()
		words := append([]string(nil), whole...)
		words[at] = word
		isNoJob(t, strings.Join(words, " "))
	}
	isParsed(t, strings.Join(whole, " "), api.Job{Name: "a", Cron: "5 * * * *", Policy: 1, Deadline: 10, Keep: 3, Suspend: true})
	for at, n := range map[int]int{1: 1, 2: 10, 3: 3, 4: 1} {
		for _, word := range append(numberWords(n), beyond...) {
			spoil(at, word)
		}
	}
	for _, word := range []string{"", "-", "-a", "A", "a_b", "é", "\xff", "a\n", "a\t", strings.Repeat("a", 31), strings.Repeat("a", 1<<16)} {
		spoil(0, word)
	}
	for _, word := range []string{"3", "-1", "-0", "00", "01"} {
		spoil(1, word)
	}
	for _, word := range []string{"0", "-10", "10081", "010", "-0"} {
		spoil(2, word)
	}
	for _, word := range []string{"21", "-1", "-0", "00", "03"} {
		spoil(3, word)
	}
	for _, word := range []string{"2", "3", "9", "10", "11", "-1", "-0", "00", "01", "true", "false", "t", "f"} {
		spoil(4, word)
	}
	for _, word := range []string{"05", "5,5", "5-5", "4-5,5", "6,5", "5,6,7", "5,6", "0-59", "60", "-1", "5/1", "*/1", "*/5", "*/15", "5,", "x", "", " 5", "5 ", "5\t", "\t5"} {
		spoil(5, word)
	}
	for at, all := range map[int]string{6: "0-23", 8: "1-12"} {
		spoil(at, all)
	}
	for _, word := range []string{"jan", "mon", "sun", "MON", "7", "L", "?", "@daily", "0,1", "1,0", "01", "**"} {
		spoil(9, word)
	}
}

func TestP1702BlanksAndWords(t *testing.T) {
	const whole = "a 1 10 3 1 5 * * * *"
	for at := range len(whole) {
		isNoJob(t, whole[:at])
		isNoJob(t, whole[:at]+" "+whole[at:])
		isNoJob(t, whole[:at]+"\t"+whole[at:])
		isNoJob(t, whole[:at]+"\n"+whole[at:])
		if whole[at] == ' ' {
			for _, gap := range []string{"", "  ", "\t", " \t", "\n", "\u00a0", "\u2003", ",", "\x00", "_"} {
				isNoJob(t, whole[:at]+gap+whole[at+1:])
			}
		}
	}
	words := strings.Split(whole, " ")
	for at := range words {
		less := append(append([]string(nil), words[:at]...), words[at+1:]...)
		isNoJob(t, strings.Join(less, " "))
		for _, one := range []string{"1", "*", "a", "0", ""} {
			more := append(append(append([]string(nil), words[:at]...), one), words[at:]...)
			isNoJob(t, strings.Join(more, " "))
		}
	}
	for _, s := range []string{"", " ", "a", "a ", "     ", "          ", whole + " ", whole + " *", whole + "\n", " " + whole, "\ufeff" + whole, whole + "\x00", whole + whole, whole + " " + whole} {
		isNoJob(t, s)
	}
}

// A text that is cut, of which a byte is turned, or lacks, or is there twice: the model tells which are jobs still.
func TestP1702EachByte(t *testing.T) {
	taken := 0
	for _, whole := range []string{"a 1 10 3 0 5 * * * *", "z-9 2 10080 20 1 1-3,9 0 13 * 5", strings.Repeat("q", 30) + " 0 1 0 0 0-58 * 1-31 2,12 0-6"} {
		for at := range len(whole) {
			taken += isAsModel(t, whole[:at])
			taken += isAsModel(t, whole[at:])
			taken += isAsModel(t, whole[:at]+whole[at+1:])
			for c := range 256 {
				taken += isAsModel(t, whole[:at]+string([]byte{byte(c)})+whole[at+1:])
				taken += isAsModel(t, whole[:at]+string([]byte{byte(c)})+whole[at:])
			}
		}
	}
	if taken < 1000 {
		t.Errorf("%d were taken: too few to tell", taken)
	}
}
