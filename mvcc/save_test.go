package mvcc_test

import (
	"bytes"
	"fmt"
	"math"
	"math/rand"
	"strings"
	"testing"

	"horologe/api"
	"horologe/mvcc"
)

// stores tells stores of many kinds, with their models, by names.
func stores(t *testing.T) map[string]func() (*mvcc.Store, *model) {
	made := map[string]func() (*mvcc.Store, *model){
		"none":          func() (*mvcc.Store, *model) { return of(t) },
		"one":           func() (*mvcc.Store, *model) { return of(t, []string{"a=1"}) },
		"one that went": func() (*mvcc.Store, *model) { return of(t, []string{"a=1"}, []string{"-a"}) },
		"great ones": func() (*mvcc.Store, *model) {
			longest := strings.Repeat("\xff", 100)
			return of(t, []string{longest + "=" + strings.Repeat("\x00", 4096) + fmt.Sprint("@", math.MaxInt), "\x00="}, []string{longest + "=", "\x00=" + strings.Repeat("v", 4096)})
		},
		"many": func() (*mvcc.Store, *model) {
			s, m := of(t)
			for i := range 300 {
				do(t, s, m, fmt.Sprint("k", i%97, "=", i, "@", i*i*i), fmt.Sprint("-k", i%50+20))
			}
			s.Compact(140)
			m.compact(140)
			return s, m
		},
		"a write is open": func() (*mvcc.Store, *model) {
			s, m := some(t)
			w := s.Write()
			w.Put("a", "not yet", 1)
			w.Delete("e", "")
			return s, m
		},
	}
	for compacted := range 8 {
		made[fmt.Sprint("compacted at ", compacted)] = func() (*mvcc.Store, *model) {
			s, m := some(t)
			s.Compact(compacted)
			m.compact(compacted)
			return s, m
		}
	}
	return made
}

// loaded saves a store and loads it.
func loaded(t *testing.T, s *mvcc.Store) *mvcc.Store {
	t.Helper()
	x, err := mvcc.Load(s.Save())
	if err != api.OK {
		t.Fatalf("Load: %v", err)
	}
	return x
}

func TestP804ThereAndBack(t *testing.T) {
	for name, make := range stores(t) {
		t.Run(name, func(t *testing.T) {
			s, m := make()
			b := s.Save()
			x := loaded(t, s)
			isAs(t, x, m)
			isAs(t, s, m)
			if !bytes.Equal(x.Save(), b) || !bytes.Equal(s.Save(), b) {
				t.Error("Save tells something else")
			}
		})
	}
}

// TestP804ItGoesOn writes to what was loaded: it answers as the store that was saved.
func TestP804ItGoesOn(t *testing.T) {
	for name, make := range stores(t) {
		t.Run(name, func(t *testing.T) {
			s, m := make()
			x := loaded(t, s)
			do(t, x, m, "a=8", "-c", "e=9@3")
			do(t, x, m, "-\x00:f", "new=")
			isAs(t, x, m)
			rev := m.rev() - 1
			is(t, "Compact", x.Compact(rev), m.compact(rev))
			do(t, x, m, "new=2", "a=3")
			isAs(t, x, m)
			isAs(t, loaded(t, x), m)
		})
	}
}

func TestP804AFullStore(t *testing.T) {
	s := full(t)
	w := s.Write()
	w.Put("k0007", "again", 0)
	w.Done()
	for _, rev := range []int{0, 1, 2, 3} {
		s.Compact(rev)
		x := loaded(t, s)
		if all(t, x, 0) != all(t, s, 0) {
			t.Fatalf("compacted at %d: another store", rev)
		}
		is(t, "a new one", x.Write().Put("more", "", 0), api.ErrFull)
	}
}

func isBad(t *testing.T, what string, b []byte) {
	t.Helper()
	if x, err := mvcc.Load(b); x != nil || err != api.ErrBad {
		t.Fatalf("%s: %v, %v", what, x != nil, err)
	}
}

func TestP804NoBytes(t *testing.T) {
	isBad(t, "nil", nil)
	isBad(t, "none", []byte{})
	for n := range 40 {
		isBad(t, "zeros", make([]byte, n))
		isBad(t, "ones", bytes.Repeat([]byte{255}, n))
	}
}

func TestP804BytesCutShort(t *testing.T) {
	for name, make := range stores(t) {
		s, _ := make()
		b := s.Save()
		for n := range b {
			isBad(t, fmt.Sprint(name, ", the front of ", n), b[:n])
			isBad(t, fmt.Sprint(name, ", without the first ", n+1), b[n+1:])
		}
	}
}

func TestP804BytesWithMoreBehind(t *testing.T) {
	for name, make := range stores(t) {
		s, _ := make()
		b := s.Save()
		for x := range 256 {
			isBad(t, name, append(bytes.Clone(b), byte(x)))
		}
		isBad(t, name+", twice", append(bytes.Clone(b), b...))
		isBad(t, name+", and its end", append(bytes.Clone(b), b[len(b)-8:]...))
	}
}

func TestP804BytesTurned(t *testing.T) {
	for name, make := range stores(t) {
		s, _ := make()
		b := s.Save()
		for i := range b {
			for x := 1; x < 256; x += 1 + len(b)/300 {
				was := b[i]
				b[i] ^= byte(x)
				isBad(t, fmt.Sprint(name, ", byte ", i, " turned by ", x), b)
				b[i] = was
			}
		}
	}
}

func TestP804BytesMixedUp(t *testing.T) {
	r := rand.New(rand.NewSource(804))
	s, _ := some(t)
	b := s.Save()
	for range 20000 {
		c := bytes.Clone(b)
		for range 1 + r.Intn(4) {
			i, j := r.Intn(len(c)), r.Intn(len(c))
			switch r.Intn(3) {
			case 0:
				c[i], c[j] = c[j], c[i]
			case 1:
				c[i] = byte(r.Intn(256))
			case 2:
				c = append(c[:min(i, j)], c[max(i, j):]...)
				c = append(c, 0)
			}
		}
		if x, err := mvcc.Load(c); err == api.OK && !bytes.Equal(x.Save(), c) {
			t.Fatalf("%x was taken, but Save tells %x", c, x.Save())
		}
	}
}

// TestP804TheSameStoreTheSameBytes: of two stores that tell the same, Save does too.
func TestP804TheSameStoreTheSameBytes(t *testing.T) {
	for rev := range 4 {
		s, _ := of(t, []string{"a=1", "b=2", "c=3"}, []string{"-a:c", "d=4"}, []string{"a=5"})
		x, _ := of(t, []string{"a=1", "b=2", "c=3"}, []string{"-a", "-b", "-x:z", "d=4"}, []string{"-q"}, []string{"a=5"})
		for step := range rev {
			s.Compact(step + 1)
		}
		x.Compact(rev)
		if !bytes.Equal(s.Save(), x.Save()) {
			t.Errorf("compacted at %d: %x, %x", rev, s.Save(), x.Save())
		}
	}
}
