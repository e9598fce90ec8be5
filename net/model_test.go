package net_test

import (
	"encoding/binary"
	"hash/crc32"

	"horologe/api"
)

// reading is bytes that are read from the front, till it ends with an error.
type reading struct {
	b []byte
}

// fault is an error that ends a reading.
type fault struct {
	err api.Errno
}

func (r *reading) take(n int) []byte {
	if n > len(r.b) {
		panic(fault{api.ErrCut})
	}
	b := r.b[:n]
	r.b = r.b[n:]
	return b
}

func (r *reading) octet() int { return int(r.take(1)[0]) }

func (r *reading) number() int { return int(binary.BigEndian.Uint64(r.take(8))) }

func (r *reading) text() []byte { return r.take(int(binary.BigEndian.Uint32(r.take(4)))) }

func (r *reading) is(may bool, err api.Errno) {
	if !may {
		panic(fault{err})
	}
}

// message reads one as the chapter has it, byte by byte.
func (r *reading) message() (m api.Msg) {
	m.Kind = r.octet()
	r.is(m.Kind >= 1 && m.Kind <= 5, api.ErrKind)
	for _, n := range []*int{&m.From, &m.To, &m.Term, &m.Index, &m.LogTerm} {
		*n = r.number()
	}
	for range r.octet() {
		var e api.Entry
		e.Index = r.number()
		e.Term = r.number()
		e.Kind = r.octet()
		e.Data = r.text()
		m.Entries = append(m.Entries, e)
	}
	m.Commit = r.number()
	m.Seq = r.number()
	ok := r.octet()
	r.is(ok < 2, api.ErrBad)
	m.OK = ok == 1
	m.Match = r.number()
	m.Meta.Index = r.number()
	m.Meta.Term = r.number()
	for range r.octet() {
		m.Meta.Voters = append(m.Meta.Voters, r.number())
	}
	m.Data = r.text()
	r.is(len(r.b) == 0, api.ErrMore)
	return m
}

// parsed tells what Parse is to answer, by the tests' own means.
func parsed(b []byte) (m api.Msg, err api.Errno) {
	if len(b) < 8 {
		return m, api.ErrCut
	}
	n := uint64(binary.BigEndian.Uint32(b))
	switch {
	case n > most:
		return m, api.ErrLong
	case n > uint64(len(b)-8):
		return m, api.ErrCut
	case crc32.ChecksumIEEE(b[8:8+n]) != binary.BigEndian.Uint32(b[4:]):
		return m, api.ErrSum
	case n < uint64(len(b)-8):
		return m, api.ErrMore
	}
	defer func() {
		if f := recover(); f != nil {
			m, err = api.Msg{}, f.(fault).err
		}
	}()
	r := reading{b[8:]}
	return r.message(), api.OK
}
