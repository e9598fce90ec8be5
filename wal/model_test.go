package wal_test

import (
	"fmt"
	"math/rand"
	"testing"

	"horologe/api"
	"horologe/disk"
	"horologe/wal"
)

// model is a log as the promises say it: its state, and each file's bytes by its number.
type model struct {
	state  wal.State
	files  map[int]string
	newest int
	begins bool // the next Save begins a file
}

func (m *model) save(h *api.Hard, e []api.Entry) {
	if h == nil && len(e) == 0 {
		return
	}
	var records []any
	for _, x := range e {
		records = append(records, x)
	}
	if h != nil {
		records = append(records, *h)
	}
	if m.begins || len(m.files[m.newest]) >= 4096 {
		m.newest++
	}
	m.begins = false
	m.files[m.newest] += string(rec(records...))
	m.state = saying(m.state, records...)
}

func (m *model) cut(at api.Meta) {
	m.state = saying(m.state, at)
	records := []any{at, m.state.Hard}
	for _, e := range m.state.Entries {
		records = append(records, e)
	}
	m.newest++
	m.files = map[int]string{m.newest: string(rec(records...))}
	m.begins = false
}

// onDisk tells the model's files as a disk has them.
func (m *model) onDisk() map[string]string {
	all := map[string]string{}
	for number, b := range m.files {
		all[fmt.Sprintf("wal-%08d", number)] = b
	}
	return all
}

// drawnSave tells what may be saved.
func drawnSave(draw *rand.Rand, s wal.State) (*api.Hard, []api.Entry) {
	var h *api.Hard
	if draw.Intn(2) == 0 {
		h = &api.Hard{Term: draw.Intn(9), Vote: draw.Intn(4) - 1, Commit: draw.Intn(9)}
	}
	last := s.Meta.Index + len(s.Entries)
	first := max(last+1-draw.Intn(3)*draw.Intn(3), s.Meta.Index+1)
	list := run(first, first+draw.Intn(5)-1, draw.Intn(4))
	for i := range list {
		if draw.Intn(4) == 0 {
			list[i].Data = make([]byte, draw.Intn(2000))
		}
	}
	return h, list
}

// drawnCut tells where a log may be cut.
func drawnCut(draw *rand.Rand, s wal.State) api.Meta {
	m := meta(max(s.Meta.Index+draw.Intn(len(s.Entries)+2), 1), draw.Intn(4), draw.Perm(draw.Intn(8))...)
	for _, e := range s.Entries {
		if e.Index == m.Index && draw.Intn(4) > 0 {
			m.Term = e.Term
		}
	}
	return m
}

func TestP301ToP304AsTheModelHasThem(t *testing.T) {
	for seed := range 70 {
		draw := rand.New(rand.NewSource(int64(seed)))
		d, l := fresh(t)
		m := &model{state: start(), files: map[int]string{}, begins: true}
		for range 80 {
			step(t, draw, d, &l, m)
			says(t, "as the model", d, l, told(m.state))
			counts(t, "as the model", l, len(m.files))
			holds(t, "as the model", d, m.onDisk())
			if t.Failed() {
				t.Fatalf("seed %d", seed)
			}
		}
	}
}

func step(t *testing.T, draw *rand.Rand, d *disk.Disk, l **wal.Log, m *model) {
	t.Helper()
	switch draw.Intn(10) {
	case 0:
		*l = opened(t, d)
		m.begins = true
	case 1:
		at := drawnCut(draw, m.state)
		is(t, "Cut", (*l).Cut(at), api.OK)
		m.cut(at)
	case 2:
		is(t, "a wrong Cut", (*l).Cut(meta(m.state.Meta.Index-1, 1)), api.ErrArg)
		is(t, "a gap", (*l).Save(nil, en(m.state.Meta.Index+len(m.state.Entries)+2, 1)), api.ErrGap)
	case 3:
		d.Stop(1)
		h, e := drawnSave(draw, m.state)
		if h != nil || len(e) > 0 {
			is(t, "stopped", (*l).Save(h, e...), api.ErrDead)
		}
		d.Crash(draw.Intn(9))
	default:
		h, e := drawnSave(draw, m.state)
		is(t, "Save", (*l).Save(h, e...), api.OK)
		m.save(h, e)
	}
}

func TestP305DrawnCrashes(t *testing.T) {
	for seed := range 100 {
		draw := rand.New(rand.NewSource(int64(seed)))
		d, l := fresh(t)
		for range 60 {
			ahead := l.State()
			d.Stop(draw.Intn(12))
			h, e := drawnSave(draw, ahead)
			may := fronts(ahead, h, e)
			call := func() api.Errno { return l.Save(h, e...) }
			if draw.Intn(6) == 0 {
				at := drawnCut(draw, ahead)
				may = []string{told(ahead), told(saying(ahead, at))}
				call = func() api.Errno { return l.Cut(at) }
			}
			if call() == api.OK {
				may = may[len(may)-1:]
				says(t, fmt.Sprintf("seed %d", seed), d, l, may[0])
				continue
			}
			d.Crash(draw.Intn(5000), draw.Intn(5000))
			l = opened(t, d)
			found := told(l.State())
			among := false
			for _, x := range may {
				among = among || x == found
			}
			if !among {
				t.Fatalf("seed %d: %s, none of %q", seed, found, may)
			}
		}
	}
}
