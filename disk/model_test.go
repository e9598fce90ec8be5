package disk_test

import (
	"math/rand"
	"slices"
	"strings"
	"testing"

	"horologe/api"
	"horologe/disk"
)

// page is a file as the model has it: synced bytes, and loose ones behind them.
type page struct {
	name, synced, loose string
}

// model is a disk as the promises say it, with no thought of speed: pages by their names.
type model struct {
	room, ops, stop int
	dead            bool
	pages           []page
}

func (m *model) place(name string) int {
	return slices.IndexFunc(m.pages, func(p page) bool { return p.name == name })
}

func (m *model) used() int {
	n := 0
	for _, p := range m.pages {
		n += len(p.synced + p.loose)
	}
	return n
}

// doing tells the error of an operation ahead of its own ones.
func (m *model) doing(names ...string) api.Errno {
	if m.stop > 0 {
		m.stop--
		m.dead = m.dead || m.stop == 0
	}
	if m.dead {
		return api.ErrDead
	}
	m.ops++
	return m.wrong(names...)
}

func (m *model) wrong(names ...string) api.Errno {
	for _, name := range names {
		if name == "" || len(name) > 40 || strings.Trim(name, "abcdefghijklmnopqrstuvwxyz0123456789.-") != "" {
			return api.ErrArg
		}
	}
	return api.OK
}

func (m *model) append(name, b string) api.Errno {
	if err := m.doing(name); err != api.OK {
		return err
	}
	if m.used()+len(b) > m.room {
		return api.ErrFull
	}
	if m.place(name) < 0 {
		m.pages = append(m.pages, page{name: name})
		m.sort()
	}
	m.pages[m.place(name)].loose += b
	return api.OK
}

func (m *model) sort() {
	slices.SortFunc(m.pages, func(a, b page) int { return strings.Compare(a.name, b.name) })
}

func (m *model) sync(name string) api.Errno {
	if err := m.doing(name); err != api.OK {
		return err
	}
	at := m.place(name)
	if at < 0 {
		return api.ErrNone
	}
	p := &m.pages[at]
	p.synced, p.loose = p.synced+p.loose, ""
	return api.OK
}

func (m *model) rename(from, to string) api.Errno {
	if err := m.doing(from, to); err != api.OK {
		return err
	}
	at := m.place(from)
	if at < 0 {
		return api.ErrNone
	}
	if from != to {
		p := m.pages[at]
		p.name = to
		m.pages = slices.DeleteFunc(m.pages, func(p page) bool { return p.name == from || p.name == to })
		m.pages = append(m.pages, p)
		m.sort()
	}
	return api.OK
}

func (m *model) remove(name string) api.Errno {
	if err := m.doing(name); err != api.OK {
		return err
	}
	at := m.place(name)
	if at < 0 {
		return api.ErrNone
	}
	m.pages = slices.Delete(m.pages, at, at+1)
	return api.OK
}

func (m *model) read(name string) (string, api.Errno) {
	if m.dead {
		return "", api.ErrDead
	}
	if err := m.wrong(name); err != api.OK {
		return "", err
	}
	at := m.place(name)
	if at < 0 {
		return "", api.ErrNone
	}
	return m.pages[at].synced + m.pages[at].loose, api.OK
}

func (m *model) list() ([]string, api.Errno) {
	if m.dead {
		return nil, api.ErrDead
	}
	var l []string
	for _, p := range m.pages {
		l = append(l, p.name)
	}
	return l, api.OK
}

func (m *model) crash(picks []int) int {
	count := 0
	for i := range m.pages {
		p := &m.pages[i]
		if p.loose == "" {
			continue
		}
		stay := 0
		if len(picks) > 0 {
			stay, picks = picks[0], picks[1:]
		}
		for stay < 0 { // the picks of the test are small
			stay += len(p.loose) + 1
		}
		p.synced, p.loose = p.synced+p.loose[:stay%(len(p.loose)+1)], ""
		count++
	}
	m.dead, m.stop = false, 0
	return count
}

// drawnName tells one of a few names, at times one that is none.
func drawnName(draw *rand.Rand) string {
	return []string{"a", "b", "c", "a.new", "0", "-", "A", ""}[draw.Intn(8)]
}

// step does one drawn call on both, and holds their answers against each other.
func step(t *testing.T, draw *rand.Rand, d *disk.Disk, m *model) {
	t.Helper()
	name, to := drawnName(draw), drawnName(draw)
	switch draw.Intn(12) {
	case 0, 1, 2, 3:
		b := make([]byte, draw.Intn(6))
		draw.Read(b)
		is(t, "Append "+name, d.Append(name, b), m.append(name, string(b)))
	case 4, 5:
		is(t, "Sync "+name, d.Sync(name), m.sync(name))
	case 6, 7:
		is(t, "Rename "+name+" "+to, d.Rename(name, to), m.rename(name, to))
	case 8:
		is(t, "Remove "+name, d.Remove(name), m.remove(name))
	case 9:
		n := draw.Intn(9) - 2
		d.Stop(n)
		m.stop = max(n, 0)
	default:
		picks := make([]int, draw.Intn(6))
		for i := range picks {
			picks[i] = draw.Intn(40) - 20
		}
		if got, want := d.Crash(picks...), m.crash(picks); got != want {
			t.Errorf("Crash(%v): %d, not %d", picks, got, want)
		}
	}
}

// alike asks both for all that can be told of them.
func alike(t *testing.T, d *disk.Disk, m *model) {
	t.Helper()
	got, err := d.List()
	want, wanted := m.list()
	if err != wanted || !slices.Equal(got, want) {
		t.Errorf("List: %v, %v; not %v, %v", got, err, want, wanted)
	}
	for _, name := range []string{"a", "b", "c", "a.new", "0", "-", "A", ""} {
		got, err := d.Read(name)
		want, wanted := m.read(name)
		if err != wanted || string(got) != want {
			t.Errorf("Read(%q): %x, %v; not %x, %v", name, got, err, want, wanted)
		}
	}
	if d.Ops() != m.ops || d.Used() != m.used() {
		t.Errorf("Ops %d, Used %d; not %d, %d", d.Ops(), d.Used(), m.ops, m.used())
	}
}

func TestP202ToP204AsTheModelHasThem(t *testing.T) {
	for seed := range 400 {
		draw := rand.New(rand.NewSource(int64(seed)))
		room := draw.Intn(40)
		d, m := made(t, room), &model{room: room}
		for range 150 {
			step(t, draw, d, m)
			alike(t, d, m)
			if t.Failed() {
				t.Fatalf("seed %d, room %d", seed, room)
			}
		}
	}
}
