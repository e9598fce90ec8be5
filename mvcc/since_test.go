package mvcc_test

import (
	"math"
	"testing"

	"horologe/api"
	"horologe/mvcc"
)

func TestP803Since(t *testing.T) {
	s, m := some(t)
	from := []string{
		"", "1+a=1/1.1.1.0 1+c=2/1.1.1.5 ", "2+a=11/1.2.2.0 ", "3+e=3/3.3.1.0 3-c=/0.3.0.0 ", "4+c=4/4.4.1.0 4+a=111/1.4.3.9 ", "5-a=/0.5.0.0 5-c=/0.5.0.0 ", "6+g=/6.6.1.0 6+c=5/6.6.1.0 ", "7+c=55/6.7.2.0 ",
	}
	for rev := 1; rev <= 7; rev++ {
		want := ""
		for _, text := range from[rev:] {
			want += text
		}
		l, err := s.Since(rev)
		if toldEvents(l)+" " != want || err != api.OK {
			t.Errorf("Since(%d): %s, %v; not %s", rev, toldEvents(l), err, want)
		}
	}
	isAs(t, s, m)
}

func TestP803RevisionsOfSince(t *testing.T) {
	for compacted := range 8 {
		s, m := some(t)
		if compacted > 0 {
			is(t, "Compact", s.Compact(compacted), m.compact(compacted))
		}
		for rev := -2; rev < 12; rev++ {
			want := api.OK
			switch {
			case rev < 1:
				want = api.ErrArg
			case rev <= compacted:
				want = api.ErrPast
			}
			l, err := s.Since(rev)
			if err != want || (len(l) > 0) != (err == api.OK && rev <= 7) {
				t.Errorf("compacted at %d: Since(%d): %s, %v, not %v", compacted, rev, toldEvents(l), err, want)
			}
		}
		for rev, want := range map[int]api.Errno{math.MinInt: api.ErrArg, 1 << 62: api.OK, math.MaxInt: api.OK} {
			if l, err := s.Since(rev); len(l) != 0 || err != want {
				t.Errorf("compacted at %d: Since(%d): %s, %v", compacted, rev, toldEvents(l), err)
			}
		}
	}
}

func TestP803SinceOfNone(t *testing.T) {
	s := mvcc.New()
	for rev, want := range map[int]api.Errno{math.MinInt: api.ErrArg, -1: api.ErrArg, 0: api.ErrArg, 1: api.OK, 2: api.OK, math.MaxInt: api.OK} {
		if l, err := s.Since(rev); len(l) != 0 || err != want {
			t.Errorf("Since(%d): %s, %v", rev, toldEvents(l), err)
		}
	}
}

func TestP803TheOrderOfOneRevision(t *testing.T) {
	s, m := of(t, []string{"m=1", "a=2", "z=3", "k=4", "b=5"})
	do(t, s, m, "y=1", "-k", "c=2", "-a:n", "b=3", "-z", "a=4", "l=5", "-a:zz", "x=6")
	l, err := s.Since(2)
	want := "2+y=1/2.2.1.0 2-k=/0.2.0.0 2+c=2/2.2.1.0 2-a=/0.2.0.0 2-b=/0.2.0.0 2-m=/0.2.0.0 2-z=/0.2.0.0 2+l=5/2.2.1.0 2+x=6/2.2.1.0"
	if toldEvents(l) != want || err != api.OK {
		t.Errorf("%s, %v; not %s", toldEvents(l), err, want)
	}
	isAs(t, s, m)
}

func TestP803Compact(t *testing.T) {
	for compacted := range 8 {
		for _, rev := range []int{math.MinInt, -1, 0, 1, 2, 3, 4, 5, 6, 7, 8, 9, 1 << 62, math.MaxInt} {
			s, m := some(t)
			if compacted > 0 {
				is(t, "Compact", s.Compact(compacted), api.OK)
				m.compacted = compacted
			}
			want, behind := api.OK, rev
			switch {
			case rev < 1:
				want, behind = api.ErrArg, compacted
			case rev > 7:
				want, behind = api.ErrFuture, compacted
			case rev <= compacted:
				want, behind = api.ErrPast, compacted
			}
			if err := s.Compact(rev); err != want || s.Compacted() != behind {
				t.Errorf("compacted at %d: Compact(%d): %v, not %v; Compacted: %d", compacted, rev, err, want, s.Compacted())
			}
			m.compacted = behind
			isAs(t, s, m)
		}
	}
}

func TestP803CompactOfNone(t *testing.T) {
	s := mvcc.New()
	for rev, want := range map[int]api.Errno{math.MinInt: api.ErrArg, -1: api.ErrArg, 0: api.ErrArg, 1: api.ErrFuture, math.MaxInt: api.ErrFuture} {
		is(t, "Compact", s.Compact(rev), want)
		isAs(t, s, newModel())
	}
}

// TestP803CompactAndGoOn: what is behind a Compact goes on as if there were none.
func TestP803CompactAndGoOn(t *testing.T) {
	for one := 1; one <= 7; one++ {
		for two := 1; two <= 7; two++ {
			s, m := some(t)
			is(t, "Compact", s.Compact(one), m.compact(one))
			is(t, "Compact", s.Compact(two), m.compact(two))
			do(t, s, m, "a=8", "-c", "e=9")
			isAs(t, s, m)
			do(t, s, m, "-a:z", "c=10")
			isAs(t, s, m)
			is(t, "Compact", s.Compact(9), m.compact(9))
			isAs(t, s, m)
			do(t, s, m, "c=11", "a=12")
			isAs(t, s, m)
		}
	}
}

// TestP803CompactAllThatWent leaves no key at all.
func TestP803CompactAllThatWent(t *testing.T) {
	s, m := of(t, []string{"a=1", "b=2"}, []string{"-a:c"})
	is(t, "Compact", s.Compact(2), m.compact(2))
	isAs(t, s, m)
	do(t, s, m, "a=3")
	isAs(t, s, m)
	is(t, "anew", all(t, s, 0), "a=3/3.3.1.0")
}
