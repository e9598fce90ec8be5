package shots_test

import (
	"fmt"
	"maps"
	"math/rand"
	"regexp"
	"slices"
	"testing"

	"horologe/api"
	"horologe/disk"
	"horologe/shots"
)

// model is a disk's files, as the chapter says that they change.
type model map[string]string

var ofAShot = regexp.MustCompile(`^shot-[0-9]{12}$`)

// newest tells the name of the snapshot that Load tells, and it as a text. A file is whole, if it is just what a snapshot that Save allows would have.
func (m model) newest() (string, string) {
	for _, name := range slices.Backward(slices.Sorted(maps.Keys(m))) {
		if at, what, whole := m.read(name); whole {
			return name, told(at, what)
		}
	}
	return "", none
}

func (m model) read(name string) (api.Meta, []byte, bool) {
	var index, voters int
	b := m[name]
	if !ofAShot.MatchString(name) || len(b) < 8+17+4 || b[8+16] > api.MaxNodes {
		return api.Meta{}, nil, false
	}
	fmt.Sscanf(name, "shot-%d", &index)
	voters = int(b[8+16])
	if index == 0 || len(b) < 8+17+8*voters+4 {
		return api.Meta{}, nil, false
	}
	at := api.Meta{Index: index}
	for i := range 8 {
		at.Term = at.Term<<8 | int(b[16+i])
	}
	for i := range voters {
		v := 0
		for k := range 8 {
			v = v<<8 | int(b[25+8*i+k])
		}
		at.Voters = append(at.Voters, v)
	}
	data := b[25+8*voters+4:]
	return at, []byte(data), string(file(at, data)) == b
}

func (m model) trim() int {
	keep, _ := m.newest()
	ahead := len(m)
	if keep != "" {
		maps.DeleteFunc(m, func(name, _ string) bool { return name != keep && ofAShot.MatchString(name) })
	}
	return ahead - len(m)
}

// spoil changes a file of the disk, and the model with it.
func spoil(t *testing.T, draw *rand.Rand, d *disk.Disk, m model) {
	t.Helper()
	all := slices.Sorted(maps.Keys(m))
	if len(all) == 0 {
		return
	}
	name := all[draw.Intn(len(all))]
	b := []byte(m[name])
	switch draw.Intn(5) {
	case 0:
		b = b[:draw.Intn(len(b)+1)]
	case 1:
		b = append(b, "more"[:draw.Intn(5)]...)
	case 2:
		if len(b) > 0 {
			b[draw.Intn(len(b))] ^= 1 << draw.Intn(8)
		}
	case 3: // turned, in a frame that is whole
		if len(b) > 8 {
			b = slices.Clone(b[8:])
			b[draw.Intn(len(b))] ^= 1 << draw.Intn(8)
			b = framed(b)
		}
	case 4: // under another name
		name = []string{"shot.new", "other", called(draw.Intn(15)), "shot-00000000000x"}[draw.Intn(4)]
	}
	lay(t, d, name, b)
	m[name] = string(b)
}

func TestP401AndP402AsTheModelHasThem(t *testing.T) {
	draw := rand.New(rand.NewSource(4))
	for run := range 300 {
		d, m := made(t, 1<<20), model{}
		for step := range 60 {
			what := fmt.Sprintf("run %d, step %d", run, step)
			switch draw.Intn(8) {
			case 0:
				n := m.trim()
				did(t, what, d, n, func() { is(t, what+": Trim", shots.Trim(d), api.OK) })
			case 1, 2:
				spoil(t, draw, d, m)
			default:
				drawnSave(t, what, draw, d, m)
			}
			holds(t, what, d, m)
			_, want := m.newest()
			loads(t, what, d, want)
			if t.Failed() {
				return
			}
		}
	}
}

func drawnSave(t *testing.T, what string, draw *rand.Rand, d *disk.Disk, m model) {
	t.Helper()
	at := api.Meta{Index: draw.Intn(14) - 1, Term: draw.Intn(12) - 1}
	for range draw.Intn(9) {
		at.Voters = append(at.Voters, draw.Intn(5)-1)
	}
	data := "some data, of which a part is saved"[:draw.Intn(36)]
	want, ops := api.OK, 3
	if _, left := m["shot.new"]; left {
		ops = 4
	}
	if at.Index < 1 || at.Term < 0 || len(at.Voters) > 7 {
		want, ops = api.ErrArg, 0
	} else {
		delete(m, "shot.new")
		m[called(at.Index)] = string(file(at, data))
	}
	did(t, what, d, ops, func() { is(t, what+": Save", shots.Save(d, at, []byte(data)), want) })
}
