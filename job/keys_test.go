package job_test

import (
	"math/rand"
	"slices"
	"strings"
	"testing"

	"horologe/api"
	"horologe/job"
)

func TestP1704Keys(t *testing.T) {
	long := strings.Repeat("z", 30)
	for _, name := range []string{"a", "0", "z-9", "job", "run-1", long} {
		for got, want := range map[string]string{
			job.Key(name):             "job/" + name,
			job.LastKey(name):         "last/" + name,
			job.ActKey(name):          "act/" + name,
			job.RunKey(name, 0):       "run/" + name + "/2000000000",
			job.RunKey(name, 29e6):    "run/" + name + "/2029000000",
			job.RunKey(name, -2e9+7):  "run/" + name + "/0000000007",
			job.RunKey(name, -1e9):    "run/" + name + "/1000000000",
			job.RunKey(name, -1e9-1):  "run/" + name + "/0999999999",
			job.RunKey(name, 5):       "run/" + name + "/2000000005",
			job.RunKey(name, -5):      "run/" + name + "/1999999995",
			job.RunKey(name, first):   "run/" + name + "/0964406720",
			job.RunKey(name, first+1): "run/" + name + "/0964406721",
			job.RunKey(name, last-1):  "run/" + name + "/6223371678",
			job.RunKey(name, last):    "run/" + name + "/6223371679",
		} {
			if got != want {
				t.Errorf("%q, not %q", got, want)
			}
			if len(got) > api.MaxKey {
				t.Errorf("%q is too long for a key", got)
			}
		}
	}
}

// byteByByte tells whether a text is ahead of another one.
func byteByByte(a, b string) bool {
	for i := range min(len(a), len(b)) {
		if a[i] != b[i] {
			return a[i] < b[i]
		}
	}
	return len(a) < len(b)
}

func isRising(t *testing.T, minutes []int) {
	t.Helper()
	for i := 1; i < len(minutes); i++ {
		if ahead, key := job.RunKey("a", minutes[i-1]), job.RunKey("a", minutes[i]); !byteByByte(ahead, key) {
			t.Errorf("%d, %d: %q is not ahead of %q", minutes[i-1], minutes[i], ahead, key)
		}
	}
}

func TestP1705RunsKeysRiseWithTheirMinutes(t *testing.T) {
	minutes := []int{first, last}
	for n := 1; n < last; n *= 10 {
		for near := -2; near <= 2; near++ {
			for _, at := range []int{n + near, -n + near, n - 2e9 + near, first + n + near, last - n + near} {
				if at >= first && at <= last {
					minutes = append(minutes, at)
				}
			}
		}
	}
	draw := rand.New(rand.NewSource(1705))
	for range 20000 {
		minutes = append(minutes, drawnMinute(draw))
	}
	slices.Sort(minutes)
	isRising(t, slices.Compact(minutes))
}

func TestP1704MinutesAndTold(t *testing.T) {
	for want, l := range map[string][]int{
		"":                                       {},
		"0":                                      {0},
		"7":                                      {7},
		"-7":                                     {-7},
		"9 10 99 100":                            {9, 10, 99, 100},
		"0 0":                                    {0, 0},
		"3 1 2 1 3":                              {3, 1, 2, 1, 3},
		"-1 0 1":                                 {-1, 0, 1},
		"5 -7 999999999999999999":                {5, -7, most},
		"-999999999999999999 999999999999999999": {-most, most},
		"99999999999999999 100000000000000000 -10":  {99999999999999999, 100000000000000000, -10},
		"-99999999999999999 -100000000000000000 -1": {-99999999999999999, -100000000000000000, -1},
		"-1035593280 4223371679":                    {first, last},
	} {
		if got := job.Minutes(l...); got != want {
			t.Errorf("Minutes(%v): %q, not %q", l, got, want)
		}
		isTold(t, want, l...)
	}
	if s := job.Minutes(); s != "" {
		t.Errorf("Minutes of none: %q", s)
	}
	if s := job.Minutes([]int(nil)...); s != "" {
		t.Errorf("Minutes of nil: %q", s)
	}
}

// Each count of digits, there and back; from 19 on they are refused.
func TestP1704HowManyDigits(t *testing.T) {
	n := 0
	for digits := 1; digits <= 18; digits++ {
		n = n*10 + 9
		for _, x := range []int{n, -n, n/10 + 1, -n/10 - 1} {
			isTold(t, num(x), x)
			isTold(t, num(x)+" "+num(x), x, x)
			isTold(t, job.Minutes(x, 1, x), x, 1, x)
		}
	}
	for digits := 19; digits < 70; digits++ {
		for _, digit := range []string{"1", "9"} {
			s := strings.Repeat(digit, digits)
			for _, s := range []string{s, "-" + s, "1 " + s, s + " 1", "1 " + s + " 1", "1" + strings.Repeat("0", digits-1)} {
				isNotTold(t, s)
			}
		}
	}
	for _, s := range []string{"1000000000000000000", "-1000000000000000000", "9223372036854775807", "-9223372036854775808", "9223372036854775808", "18446744073709551615", "18446744073709551616", "18446744073709551617", "-18446744073709551617"} {
		isNotTold(t, s)
	}
}

func TestP1704TextsThatAreNoNumbers(t *testing.T) {
	for _, word := range append(numberWords(0), numberWords(7)...) {
		if word == "-7" || word == "" { // a number; and none of them is the empty text, alone
			continue
		}
		for _, s := range []string{word, "1 " + word, word + " 1", "1 " + word + " 2", word + " " + word} {
			isNotTold(t, s)
		}
	}
	for _, s := range []string{" ", "  ", "   ", "1 ", " 1", " 1 ", "1  2", "1   2", "1 2 ", " 1 2", "1\t2", "1\n2", "1\r\n", "1\u00a02", "1\u20032", "\t", "\n", "\x00", "1\x002", "01", "00", "-", "-0", "-00", "-01", "--1", "1-", "1-2", "1 -", "1 - 2", "- 1", "+1", "1,2", "1, 2", "[1 2]", "٣", "1 ٣", "１", "²", "1²", "\xff", "1\xff", "1 \xff", "\xc3", "\ufeff1", "\U0001d7cf", "x", "1 x", "x 1", "0x1", "1e3", "1.", "1.0", "1_0", "0 00", "0 -0", "−1", "–1", "\u01301", "İ"} {
		isNotTold(t, s)
	}
}

// All texts of a few signs, up to a length.
func TestP1704AllShortTexts(t *testing.T) {
	var grow func(s string, n int)
	grow = func(s string, n int) {
		isAsModel(t, s)
		if n > 0 {
			for _, sign := range []string{"0", "1", "9", "-", " ", "a"} {
				grow(s+sign, n-1)
			}
		}
	}
	grow("", 6)
	grow("a 1 0 ", 3)
	grow("a ", 5)
	grow("a 1 10 3 0 ", 3)
}
