package machine_test

import (
	"encoding/binary"
	"encoding/hex"
	"fmt"
	"math"
	"slices"
	"strings"
	"testing"

	"horologe/api"
	"horologe/machine"
)

// octet is a number of one byte.
type octet int

// laid lays numbers (eight bytes; an octet: one) and texts (four bytes of a length, and it) one behind the other.
func laid(parts ...any) []byte {
	var b []byte
	for _, part := range parts {
		switch x := part.(type) {
		case octet:
			b = append(b, byte(x))
		case int:
			b = binary.BigEndian.AppendUint64(b, uint64(x))
		case string:
			b = append(binary.BigEndian.AppendUint32(b, uint32(len(x))), x...)
		}
	}
	return b
}

// sample is a command and its bytes.
type sample struct {
	what string
	cmd  api.Cmd
	b    []byte
}

// samples are commands of all kinds, with bytes that are written out.
func samples() []sample {
	long := strings.Repeat("\xff", 70000)
	return []sample{
		{"nothing", api.Cmd{}, laid(0, 0, octet(0), octet(0), octet(0), octet(0))},
		{"empty lists", api.Cmd{Txn: api.Txn{If: []api.If{}, Then: []api.Op{}, Else: []api.Op{}}}, laid(0, 0, octet(0), octet(0), octet(0), octet(0))},
		{"a comparison", api.Cmd{Client: 1, Seq: 2, Txn: api.Txn{If: []api.If{{Key: "key", Target: 3, Sign: 2, N: 5, Text: "text"}}}}, laid(1, 2, octet(0), octet(1), "key", octet(3), octet(2), 5, "text", octet(0), octet(0))},
		{"an operation of Then", api.Cmd{Txn: api.Txn{Then: []api.Op{{Kind: 2, Key: "key", End: "z", Value: "value", Lease: 6, Limit: 7}}}}, laid(0, 0, octet(0), octet(0), octet(1), octet(2), "key", "z", "value", 6, 7, octet(0))},
		{"one of Else", api.Cmd{Txn: api.Txn{Else: []api.Op{{Kind: 1, Key: "key", End: "z", Value: "value", Lease: 6, Limit: 7}}}}, laid(0, 0, octet(0), octet(0), octet(0), octet(1), octet(1), "key", "z", "value", 6, 7)},
		{"several of each", api.Cmd{Client: math.MaxInt, Seq: math.MinInt, Txn: api.Txn{
			If:   []api.If{{Key: "a", Target: 255, Sign: 255, N: -1, Text: "\x00"}, {}, {Text: long}},
			Then: []api.Op{{}, {Kind: 255, Key: "ü", Lease: -1, Limit: math.MinInt}},
			Else: []api.Op{{Kind: 2, End: long}, {Value: "v"}, {Lease: math.MaxInt}}},
		}, laid(math.MaxInt, math.MinInt, octet(0),
			octet(3), "a", octet(255), octet(255), -1, "\x00", "", octet(0), octet(0), 0, "", "", octet(0), octet(0), 0, long,
			octet(2), octet(0), "", "", "", 0, 0, octet(255), "ü", "", "", -1, math.MinInt,
			octet(3), octet(2), "", long, "", 0, 0, octet(0), "", "", "v", 0, 0, octet(0), "", "", "", math.MaxInt, 0)},
		{"a grant", api.Cmd{Client: 3, Seq: 4, Kind: api.CGrant, Lease: 5, TTL: 6}, laid(3, 4, octet(1), 5, 6)},
		{"one that may not be", api.Cmd{Client: -3, Seq: -4, Kind: api.CGrant, Lease: -5, TTL: math.MinInt}, laid(-3, -4, octet(1), -5, math.MinInt)},
		{"a renewal", api.Cmd{Client: 3, Seq: 4, Kind: api.CRenew, Lease: 5}, laid(3, 4, octet(2), 5)},
		{"a revocation", api.Cmd{Client: 3, Seq: 4, Kind: api.CRevoke, Lease: 5}, laid(3, 4, octet(3), 5)},
		{"a clock", api.Cmd{Client: 3, Seq: 4, Kind: api.CClock, Time: 1 << 40}, laid(3, 4, octet(4), 1<<40)},
		{"an expiry", api.Cmd{Client: 3, Seq: 4, Kind: api.CExpire}, laid(3, 4, octet(5))},
		{"a compaction", api.Cmd{Client: 3, Seq: 4, Kind: api.CCompact, Rev: 9}, laid(3, 4, octet(6), 9)},
	}
}

func TestP1201TheBytesOfEachKind(t *testing.T) {
	for _, x := range samples() {
		if b, err := machine.EncodeCmd(x.cmd); err != api.OK || !slices.Equal(b, x.b) {
			t.Errorf("%s: %.200x, %v, not %.200x", x.what, b, err, x.b)
		}
	}
}

// TestP1201BytesWrittenOut holds bytes against such as are not made by the tests' own means.
func TestP1201BytesWrittenOut(t *testing.T) {
	for _, x := range []struct {
		cmd api.Cmd
		hex string
	}{
		{api.Cmd{Client: 258, Seq: 1, Kind: api.CGrant, Lease: 7, TTL: -1}, "0000000000000102 0000000000000001 01 0000000000000007 ffffffffffffffff"},
		{api.Cmd{Client: 1, Seq: 2, Txn: api.Txn{If: []api.If{{Key: "k", Target: 4, Sign: 1, N: 3, Text: "no"}}, Then: []api.Op{{Kind: 0, Key: "k", Value: "yes", Lease: 9}}}}, "0000000000000001 0000000000000002 00 01 00000001 6b 04 01 0000000000000003 00000002 6e6f 01 00 00000001 6b 00000000 00000003 796573 0000000000000009 0000000000000000 00"},
	} {
		b, err := machine.EncodeCmd(x.cmd)
		if want := strings.ReplaceAll(x.hex, " ", ""); err != api.OK || hex.EncodeToString(b) != want {
			t.Errorf("%x, %v, not %s", b, err, want)
		}
	}
}

// TestP1201FieldsThatAKindDoesNotHave stand in no bytes, whatever they are.
func TestP1201FieldsThatAKindDoesNotHave(t *testing.T) {
	for _, x := range samples() {
		c := x.cmd
		if c.Kind != api.CTxn {
			c.Txn = api.Txn{If: make([]api.If, 300), Then: []api.Op{{Kind: -1}}, Else: make([]api.Op, 999)}
		}
		if !slices.Contains([]int{api.CGrant, api.CRenew, api.CRevoke}, c.Kind) {
			c.Lease = 77
		}
		if c.Kind != api.CGrant {
			c.TTL = 77
		}
		if c.Kind != api.CClock {
			c.Time = 77
		}
		if c.Kind != api.CCompact {
			c.Rev = 77
		}
		if b, err := machine.EncodeCmd(c); err != api.OK || !slices.Equal(b, x.b) {
			t.Errorf("%s: %.200x, %v, not %.200x", x.what, b, err, x.b)
		}
	}
}

func refuses(t *testing.T, what string, c api.Cmd, want api.Errno) {
	t.Helper()
	b, err := machine.EncodeCmd(c)
	if err != want || (err != api.OK) != (len(b) == 0) {
		t.Errorf("%s: %.100x, %v, not %v", what, b, err, want)
	}
}

// lists makes a transaction of so many comparisons, operations of Then, of Else.
func lists(ifs, then, els int) api.Cmd {
	return api.Cmd{Txn: api.Txn{If: make([]api.If, ifs), Then: make([]api.Op, then), Else: make([]api.Op, els)}}
}

func TestP1201NoSuchKind(t *testing.T) {
	for _, kind := range []int{math.MinInt, -256, -255, -250, -1, 7, 8, 255, 256, 257, 262, 1 << 32, 1<<32 + 1, math.MaxInt} {
		refuses(t, fmt.Sprint("kind ", kind), api.Cmd{Kind: kind}, api.ErrKind)
		refuses(t, fmt.Sprint("kind ", kind, " with fields"), api.Cmd{Client: 1, Seq: 1, Kind: kind, Lease: 1, TTL: 1, Time: 1, Rev: 1}, api.ErrKind)
	}
}

func TestP1201ListsThatAreTooLong(t *testing.T) {
	for _, n := range []int{255, 256, 257, 511, 512, 1000} {
		want := api.OK
		if n > 255 {
			want = api.ErrMany
		}
		for i := range 3 {
			counts := [3]int{}
			counts[i] = n
			refuses(t, fmt.Sprint(counts), lists(counts[0], counts[1], counts[2]), want)
		}
		refuses(t, fmt.Sprint("all of ", n), lists(n, n, n), want)
	}
	b, _ := machine.EncodeCmd(lists(255, 255, 255))
	is(t, "the count of comparisons", b[17], byte(255))
	is(t, "how many bytes", len(b), 17+3+255*(4+1+1+8+4)+2*255*(1+4+4+4+8+8))
}

func TestP1201NumbersThatAreNoBytes(t *testing.T) {
	for n, want := range map[int]api.Errno{0: api.OK, 1: api.OK, 5: api.OK, 254: api.OK, 255: api.OK, 256: api.ErrArg, 257: api.ErrArg, 512: api.ErrArg, 1 << 32: api.ErrArg, math.MaxInt: api.ErrArg, -1: api.ErrArg, -256: api.ErrArg, math.MinInt: api.ErrArg} {
		for at := range 3 { // whichever element of a list it is
			ifs, ops := make([]api.If, 3), make([]api.Op, 3)
			ifs[at].Target = n
			refuses(t, fmt.Sprint("Target ", n), api.Cmd{Txn: api.Txn{If: ifs}}, want)
			ifs[at].Target, ifs[at].Sign = 0, n
			refuses(t, fmt.Sprint("Sign ", n), api.Cmd{Txn: api.Txn{If: ifs}}, want)
			ops[at].Kind = n
			refuses(t, fmt.Sprint("Kind of Then ", n), api.Cmd{Txn: api.Txn{Then: ops}}, want)
			refuses(t, fmt.Sprint("Kind of Else ", n), api.Cmd{Txn: api.Txn{Else: ops}}, want)
		}
	}
	for _, n := range []int{256, -1, math.MinInt, math.MaxInt} { // other numbers may be any
		refuses(t, "other numbers", api.Cmd{Client: n, Seq: n, Lease: n, TTL: n, Time: n, Rev: n, Txn: api.Txn{If: []api.If{{N: n}}, Then: []api.Op{{Lease: n, Limit: n}}}}, api.OK)
	}
}

func TestP1201WhichErrorOfEncode(t *testing.T) {
	bad := api.Txn{If: []api.If{{Target: 256}}, Then: []api.Op{{Kind: -1}}, Else: make([]api.Op, 256)}
	refuses(t, "all of them", api.Cmd{Kind: 7, Txn: bad}, api.ErrKind)
	refuses(t, "all of them, below 0", api.Cmd{Kind: -1, Txn: bad}, api.ErrKind)
	refuses(t, "a number in an earlier list", api.Cmd{Txn: bad}, api.ErrMany)
	for i := range 3 {
		for _, n := range []int{-1, 256} {
			c := lists(1, 1, 1)
			switch i {
			case 0:
				c.Txn.If = make([]api.If, 256)
			case 1:
				c.Txn.Then = make([]api.Op, 256)
			case 2:
				c.Txn.Else = make([]api.Op, 256)
			}
			c.Txn.If[0].Target, c.Txn.If[0].Sign, c.Txn.Then[0].Kind, c.Txn.Else[0].Kind = n, n, n, n
			refuses(t, fmt.Sprint("list ", i, " is too long, and has ", n), c, api.ErrMany)
		}
	}
	refuses(t, "numbers in all lists", api.Cmd{Txn: api.Txn{If: []api.If{{Sign: -1}}, Then: []api.Op{{Kind: 256}}, Else: []api.Op{{Kind: -1}}}}, api.ErrArg)
	for kind := 1; kind <= 6; kind++ {
		refuses(t, fmt.Sprint("a transaction that kind ", kind, " does not have"), api.Cmd{Kind: kind, Txn: bad}, api.OK)
	}
}

// TestP2EncodeLeavesWhatIsHandedIn, and tells new bytes each time.
func TestP2EncodeLeavesWhatIsHandedIn(t *testing.T) {
	ifs, ops := []api.If{{Key: "a"}, {Key: "spare"}}, []api.Op{{Key: "b"}, {Key: "spare"}}
	c := api.Cmd{Txn: api.Txn{If: ifs[:1], Then: ops[:1], Else: ops[:1]}}
	b, _ := machine.EncodeCmd(c)
	was := slices.Clone(b)
	for i := range b[:cap(b)] {
		b[:cap(b)][i] = 99
	}
	again, _ := machine.EncodeCmd(c)
	is(t, "the same bytes again", slices.Equal(again, was), true)
	is(t, "what was handed in", fmt.Sprint(ifs, ops), fmt.Sprint([]api.If{{Key: "a"}, {Key: "spare"}}, []api.Op{{Key: "b"}, {Key: "spare"}}))
	clear(ifs)
	clear(ops)
	is(t, "bytes that were told", slices.Equal(again, was), true)
}
