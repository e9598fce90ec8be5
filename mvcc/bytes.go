package mvcc

// Numbers are never below 0 here, and mostly small: a byte has the lowest seven bits that are left, and one that says whether more follow.
const (
	lowBits  = 0x7F
	moreBit  = 0x80
	maxBytes = 9 // of 63 bits
)

func appendNumber(b []byte, n int) []byte {
	for ; n > lowBits; n >>= 7 {
		b = append(b, byte(n)|moreBit)
	}
	return append(b, byte(n))
}

func appendText(b []byte, text string) []byte {
	return append(appendNumber(b, len(text)), text...)
}

// reader reads numbers and texts, one behind the other. Where there is none it is bad, and reads zero values from then on.
type reader struct {
	left []byte
	bad  bool
}

// number takes a number only as appendNumber writes it: with no byte too many.
func (r *reader) number() int {
	n := 0
	for i, x := range r.left {
		n |= int(x&lowBits) << (7 * i)
		if x < moreBit {
			if x == 0 && i > 0 {
				break
			}
			r.left = r.left[i+1:]
			return n
		}
		if i+1 == maxBytes {
			break
		}
	}
	r.left, r.bad = nil, true
	return 0
}

func (r *reader) text() string {
	size := r.number()
	if size > len(r.left) {
		r.left, r.bad = nil, true
		return ""
	}
	text := string(r.left[:size])
	r.left = r.left[size:]
	return text
}

const sumSize = 8

// sumOf tells the FNV-1a of b, so that bytes that were turned are not taken for another store's: of two that differ in one byte it is not the same.
func sumOf(b []byte) [sumSize]byte {
	n := uint64(0xCBF29CE484222325)
	for _, x := range b {
		n = (n ^ uint64(x)) * 0x100000001B3
	}
	var sum [sumSize]byte
	for i := range sum {
		sum[i] = byte(n >> (8 * i))
	}
	return sum
}
