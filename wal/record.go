package wal

import (
	"bytes"

	"horologe/api"
	"horologe/pen"
)

// The byte that a record begins with.
const (
	hardMark  = 1
	entryMark = 2
	baseMark  = 3
)

// record is what a frame of the log holds: a hard, an entry or a base.
type record interface {
	write(w *pen.Writer)
}

type (
	hard  api.Hard
	entry api.Entry
	base  api.Meta
)

func (h hard) write(w *pen.Writer) {
	w.U8(hardMark)
	w.Int(h.Term)
	w.Int(h.Vote)
	w.Int(h.Commit)
}

func (e entry) write(w *pen.Writer) {
	w.U8(entryMark)
	w.Int(e.Index)
	w.Int(e.Term)
	w.U8(e.Kind)
	w.Text(string(e.Data))
}

func (m base) write(w *pen.Writer) {
	w.U8(baseMark)
	w.Int(m.Index)
	w.Int(m.Term)
	w.U8(len(m.Voters))
	for _, v := range m.Voters {
		w.Int(v)
	}
}

// framed tells the bytes of records, one behind the other.
func framed(records ...record) []byte {
	var b []byte
	for _, r := range records {
		w := pen.NewWriter()
		r.write(w)
		b = append(b, pen.Frame(w.Done())...)
	}
	return b
}

// toSave tells the records of a Save. The state will keep them, so they have bytes of their own.
func toSave(h *api.Hard, list []api.Entry) []record {
	var all []record
	for _, e := range list {
		e.Data = bytes.Clone(e.Data)
		all = append(all, entry(e))
	}
	if h != nil {
		all = append(all, hard(*h))
	}
	return all
}

// recordsIn tells a file's records, up to the first that is not whole.
func recordsIn(b []byte) []record {
	var all []record
	for {
		inner, size, err := pen.Unframe(b)
		if err != api.OK {
			return all
		}
		r, whole := parse(inner)
		if !whole {
			return all
		}
		all = append(all, r)
		b = b[size:]
	}
}

// parse tells the record of a frame's bytes, and whether they are just one.
func parse(b []byte) (record, bool) {
	r := pen.NewReader(b)
	var found record
	fits := true
	switch r.U8() {
	case hardMark:
		found = hard{Term: r.Int(), Vote: r.Int(), Commit: r.Int()}
	case entryMark:
		e := entry{Index: r.Int(), Term: r.Int(), Kind: r.U8(), Data: []byte(r.Text())}
		found, fits = e, e.Kind <= api.EVoters
	case baseMark:
		m := parseBase(r)
		found, fits = m, len(m.Voters) <= api.MaxNodes
	default:
		return nil, false
	}
	if !fits || r.Err() != api.OK || r.Left() > 0 {
		return nil, false
	}
	return found, true
}

func parseBase(r *pen.Reader) base {
	m := base{Index: r.Int(), Term: r.Int()}
	for range r.U8() {
		m.Voters = append(m.Voters, r.Int())
	}
	return m
}
