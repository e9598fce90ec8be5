package shots_test

import (
	"slices"
	"testing"

	"horologe/api"
	"horologe/shots"
)

func TestP2WhatIsSavedIsNeitherChangedNorKept(t *testing.T) {
	d := made(t, 1000)
	voters := []int{1, 2, 3, 4}
	data := []byte("data, and spare room")
	is(t, "Save", shots.Save(d, api.Meta{Index: 7, Term: 3, Voters: voters[:2]}, data[:4]), api.OK)
	if !slices.Equal(voters, []int{1, 2, 3, 4}) || string(data) != "data, and spare room" {
		t.Errorf("changed: %v, %s", voters, data)
	}
	for i := range voters {
		voters[i] = 9
	}
	for i := range data {
		data[i] = '#'
	}
	holds(t, "changed behind it", d, map[string]string{called(7): string(file(meta(7, 3, 1, 2), "data"))})
	loads(t, "changed behind it", d, "7/3[1 2]=data")
}

func TestP2WhatIsLoadedIsNew(t *testing.T) {
	d := made(t, 1000)
	save(t, d, meta(7, 3, 1, 2), "data")
	m, data, _ := shots.Load(d)
	other, same, _ := shots.Load(d)
	for i := range m.Voters[:cap(m.Voters)] {
		m.Voters[:cap(m.Voters)][i] = -9
	}
	for i := range data[:cap(data)] {
		data[:cap(data)][i] = '#'
	}
	loads(t, "changed behind it", d, "7/3[1 2]=data")
	if got := told(other, same); got != "7/3[1 2]=data" {
		t.Errorf("another answer: %s", got)
	}
}

func TestP2AnAnswerStaysAsItWas(t *testing.T) {
	d := made(t, 1000)
	save(t, d, meta(7, 3, 1, 2), "data")
	m, data, _ := shots.Load(d)
	save(t, d, meta(7, 4, 5, 6), "else")
	save(t, d, meta(8, 4, 5, 6), "more")
	is(t, "Trim", shots.Trim(d), api.OK)
	if got := told(m, data); got != "7/3[1 2]=data" {
		t.Errorf("it is %s now", got)
	}
}

func TestP2NoListIsAnEmptyOne(t *testing.T) {
	for _, c := range []struct {
		voters []int
		data   []byte
	}{{nil, nil}, {[]int{}, []byte{}}} {
		d := made(t, 1000)
		is(t, "Save", shots.Save(d, api.Meta{Index: 7, Voters: c.voters}, c.data), api.OK)
		holds(t, "nil or empty", d, map[string]string{called(7): string(file(meta(7, 0), ""))})
		loads(t, "nil or empty", d, "7/0[]=")
	}
}

func TestP3TwoDisksShareNothing(t *testing.T) {
	a, b := made(t, 1000), made(t, 1000)
	save(t, a, meta(7, 3, 1), "a")
	save(t, b, meta(5, 2, 2), "b")
	loads(t, "the first one", a, "7/3[1]=a")
	loads(t, "the other one", b, "5/2[2]=b")
	save(t, b, meta(9, 2), "b")
	is(t, "Trim", shots.Trim(b), api.OK)
	names(t, "the first one", a, called(7))
}
