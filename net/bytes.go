package net

import (
	"math"
	"slices"

	"horologe/api"
	"horologe/pen"
)

// maxFrame is how many bytes a frame may have that pen does not refuse.
const maxFrame = 1 << 24

// Bytes of a message without entries, voters and Data; what each of those adds (an entry: and its Data).
const (
	bareSize  = 88
	entrySize = 21
	voterSize = 8
)

func Encode(m api.Msg) ([]byte, api.Errno) {
	if err := refuse(m); err != api.OK {
		return nil, err
	}
	w := pen.NewWriter()
	write(w, m)
	return pen.Frame(w.Done()), api.OK
}

func Parse(b []byte) (api.Msg, api.Errno) {
	inner, size, err := pen.Unframe(b)
	if err != api.OK {
		return api.Msg{}, err
	}
	if size < len(b) {
		return api.Msg{}, api.ErrMore
	}
	m, err := read(pen.NewReader(inner))
	if err != api.OK {
		return api.Msg{}, err
	}
	return m, api.OK
}

func isKind(n int) bool { return n >= api.MVote && n <= api.MSnap }

// refuse tells why a message has no bytes. It counts them ahead of writing: they could be more than there is room for.
func refuse(m api.Msg) api.Errno {
	switch {
	case !isKind(m.Kind):
		return api.ErrKind
	case len(m.Entries) > math.MaxUint8 || len(m.Meta.Voters) > math.MaxUint8:
		return api.ErrMany
	case slices.ContainsFunc(m.Entries, hasNoByte):
		return api.ErrKind
	case sizeOf(m) > maxFrame:
		return api.ErrLong
	}
	return api.OK
}

// hasNoByte tells whether an entry's Kind is more than its byte can say.
func hasNoByte(e api.Entry) bool { return e.Kind < 0 || e.Kind > math.MaxUint8 }

// sizeOf tells how many bytes write writes.
func sizeOf(m api.Msg) int {
	size := bareSize + voterSize*len(m.Meta.Voters) + len(m.Data)
	for _, e := range m.Entries {
		size += entrySize + len(e.Data)
	}
	return size
}

func write(w *pen.Writer, m api.Msg) {
	w.U8(m.Kind)
	writeInts(w, m.From, m.To, m.Term, m.Index, m.LogTerm)
	w.U8(len(m.Entries))
	for _, e := range m.Entries {
		writeInts(w, e.Index, e.Term)
		w.U8(e.Kind)
		w.Text(string(e.Data))
	}
	writeInts(w, m.Commit, m.Seq)
	w.U8(asByte(m.OK))
	writeInts(w, m.Match, m.Meta.Index, m.Meta.Term)
	w.U8(len(m.Meta.Voters))
	writeInts(w, m.Meta.Voters...)
	w.Text(string(m.Data))
}

func writeInts(w *pen.Writer, l ...int) {
	for _, n := range l {
		w.Int(n)
	}
}

func asByte(ok bool) int {
	if ok {
		return 1
	}
	return 0
}

// read reads a message, and tells the first fault on the way. Where bytes lack the reader tells zeros, so that an OK above 1 was read, and whatever lacks, lacks behind it.
func read(r *pen.Reader) (api.Msg, api.Errno) {
	m := api.Msg{Kind: r.U8()}
	if r.Err() == api.OK && !isKind(m.Kind) {
		return m, api.ErrKind
	}
	m.From, m.To, m.Term, m.Index, m.LogTerm = r.Int(), r.Int(), r.Int(), r.Int(), r.Int()
	m.Entries = readList(r, readEntry)
	m.Commit, m.Seq = r.Int(), r.Int()
	ok := r.U8()
	m.OK, m.Match = ok == 1, r.Int()
	m.Meta = api.Meta{Index: r.Int(), Term: r.Int(), Voters: readList(r, readInt)}
	m.Data = readData(r)
	switch {
	case ok > 1:
		return m, api.ErrBad
	case r.Err() != api.OK:
		return m, r.Err()
	case r.Left() > 0:
		return m, api.ErrMore
	}
	return m, api.OK
}

func readEntry(r *pen.Reader) api.Entry {
	return api.Entry{Index: r.Int(), Term: r.Int(), Kind: r.U8(), Data: readData(r)}
}

func readInt(r *pen.Reader) int { return r.Int() }

func readData(r *pen.Reader) []byte { return []byte(r.Text()) }

// readList reads how many there are, and them. It ends where bytes lack.
func readList[T any](r *pen.Reader, one func(*pen.Reader) T) []T {
	var list []T
	for n := r.U8(); n > 0 && r.Err() == api.OK; n-- {
		list = append(list, one(r))
	}
	return list
}
