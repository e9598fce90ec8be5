package job

import (
	"strings"
)

// A line is a text whose words, parted by one blank, are taken one behind the other.
type line struct {
	rest string
	more bool // a word is to come still, be it an empty one
	bad  bool // a word was no number that was taken for one, or lacked
}

func lineOf(s string) line { return line{rest: s, more: true} }

// words is what a line tells again.
func words(l ...string) string { return strings.Join(l, " ") }

// word takes the next word; an empty one where none is to come.
func (l *line) word() string {
	for at, r := range l.rest {
		if r == ' ' {
			word := l.rest[:at]
			l.rest = l.rest[at+1:]
			return word
		}
	}
	word := l.rest
	l.rest, l.more = "", false
	return word
}

// number takes the next word for a number; the empty one is none, so that a word that lacks is bad, too.
func (l *line) number() int {
	n, ok := number(l.word())
	l.bad = l.bad || !ok
	return n
}

const maxDigits = 18

// number tells which number a text is, and whether it is one.
func number(s string) (int, bool) {
	n, digits, below := 0, 0, false
	for at, r := range s {
		if r == '-' && at == 0 {
			below = true
			continue
		}
		nought := digits > 0 && n == 0
		if !isDigit(r) || nought || digits == maxDigits {
			return 0, false
		}
		n = n*10 + int(r-'0')
		digits++
	}
	if digits == 0 || below && n == 0 {
		return 0, false
	}
	if below {
		n = -n
	}
	return n, true
}

func isDigit(r rune) bool { return r >= '0' && r <= '9' }
