// Package pen: bytes, there and back, and frames. See doc/01-pen.md.
package pen

import (
	"bytes"

	"horologe/api"
)

// Bytes of the numbers that are written.
const (
	sizeU8  = 1
	sizeU32 = 4
	sizeInt = 8
)

// A frame's head is a length and a sum; longer frames are taken for broken ones.
const (
	headSize = sizeU32 + sizeU32
	maxFrame = 1 << 24
)

// Writer lays numbers and texts one behind the other, as bytes.
type Writer struct {
	bytes []byte
}

func NewWriter() *Writer { return &Writer{} }

func (w *Writer) U8(n int) { w.number(n, sizeU8) }

func (w *Writer) U32(n int) { w.number(n, sizeU32) }

func (w *Writer) Int(n int) { w.number(n, sizeInt) }

func (w *Writer) Text(s string) {
	w.U32(len(s))
	w.bytes = append(w.bytes, s...)
}

// Done hands out a copy: the writer may go on, and the caller may change what it got.
func (w *Writer) Done() []byte { return bytes.Clone(w.bytes) }

// number writes the low bytes of n, which is n modulo what they can hold, below 0 too.
func (w *Writer) number(n, size int) {
	all := bigEndian(uint64(n))
	w.bytes = append(w.bytes, all[sizeInt-size:]...)
}

// bigEndian tells a number's bytes, the highest first.
func bigEndian(n uint64) [sizeInt]byte {
	var all [sizeInt]byte
	for i := range sizeInt {
		all[sizeInt-1-i] = byte(n >> (8 * i))
	}
	return all
}

// fromBigEndian tells the number that up to eight bytes are, the highest first.
func fromBigEndian(b []byte) uint64 {
	n := uint64(0)
	for _, x := range b {
		n = n<<8 | uint64(x)
	}
	return n
}

// Reader reads what a Writer wrote, in the same order.
type Reader struct {
	bytes []byte
	at    int
	err   api.Errno
}

// NewReader reads from a copy: the caller may change b behind it.
func NewReader(b []byte) *Reader { return &Reader{bytes: bytes.Clone(b)} }

func (r *Reader) U8() int { return r.number(sizeU8) }

func (r *Reader) U32() int { return r.number(sizeU32) }

func (r *Reader) Int() int { return r.number(sizeInt) }

func (r *Reader) Text() string {
	from := r.at
	s := string(r.take(r.U32()))
	if r.err != api.OK {
		r.at = from // the length may have been read, but of a call that failed nothing counts
	}
	return s
}

func (r *Reader) At() int { return r.at }

func (r *Reader) Left() int { return len(r.bytes) - r.at }

func (r *Reader) Err() api.Errno { return r.err }

// number reads so many bytes as one number; eight of them carry its sign.
func (r *Reader) number(size int) int { return int(fromBigEndian(r.take(size))) }

// take goes on by so many bytes; where they lack, nothing is ever read again.
func (r *Reader) take(size int) []byte {
	if r.err != api.OK || size > r.Left() {
		r.err = api.ErrCut
		return nil
	}
	from := r.at
	r.at += size
	return r.bytes[from:r.at]
}

// Frame lays bytes into a frame; Unframe tells the first one of bytes, and how many it has.
func Frame(b []byte) []byte {
	w := Writer{bytes: make([]byte, 0, headSize+len(b))}
	w.U32(len(b))
	w.U32(int(sumOf(b)))
	return append(w.bytes, b...)
}

func Unframe(b []byte) ([]byte, int, api.Errno) {
	if len(b) < headSize {
		return nil, 0, api.ErrCut
	}
	length := int(fromBigEndian(b[:sizeU32]))
	sum := uint32(fromBigEndian(b[sizeU32:headSize]))
	if length > maxFrame {
		return nil, 0, api.ErrLong
	}
	if length > len(b)-headSize {
		return nil, 0, api.ErrCut
	}
	end := headSize + length
	if sumOf(b[headSize:end]) != sum {
		return nil, 0, api.ErrSum
	}
	return bytes.Clone(b[headSize:end]), end, api.OK
}
