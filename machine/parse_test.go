package machine_test

import (
	"bytes"
	"fmt"
	"math"
	"math/rand"
	"reflect"
	"slices"
	"testing"

	"horologe/api"
	"horologe/machine"
)

// plain is a command with no empty lists, so that reflect.DeepEqual takes them for none.
func plain(c api.Cmd) api.Cmd {
	if len(c.Txn.If) == 0 {
		c.Txn.If = nil
	}
	if len(c.Txn.Then) == 0 {
		c.Txn.Then = nil
	}
	if len(c.Txn.Else) == 0 {
		c.Txn.Else = nil
	}
	return c
}

// parses holds what ParseCmd answers against what was to come, field by field.
func parses(t *testing.T, what string, b []byte, want api.Cmd, wantErr api.Errno) {
	t.Helper()
	c, err := machine.ParseCmd(b)
	if err != wantErr || !reflect.DeepEqual(plain(c), plain(want)) {
		t.Fatalf("%s: %.300s, %v; not %.300s, %v", what, fmt.Sprintf("%+v", c), err, fmt.Sprintf("%+v", want), wantErr)
	}
}

func TestP1201EachKindThereAndBack(t *testing.T) {
	for _, x := range samples() {
		parses(t, x.what, x.b, x.cmd, api.OK)
	}
	most := lists(255, 255, 255)
	b, _ := machine.EncodeCmd(most)
	parses(t, "the longest lists", b, most, api.OK)
}

func TestP1201BytesCutAtEveryPlace(t *testing.T) {
	for _, x := range samples() {
		for n := range x.b {
			if n > 100 && n < len(x.b)-100 && n%997 > 0 {
				continue // within a long text
			}
			parses(t, fmt.Sprint(x.what, ", cut at ", n), x.b[:n], api.Cmd{}, api.ErrCut)
			parses(t, fmt.Sprint(x.what, ", cut at ", n, " with room behind it"), x.b[:n:n], api.Cmd{}, api.ErrCut)
		}
	}
}

func TestP1201BytesBehindTheEnd(t *testing.T) {
	for _, x := range samples() {
		for _, more := range [][]byte{{0}, {1}, {255}, x.b, make([]byte, 100)} {
			parses(t, x.what, slices.Concat(x.b, more), api.Cmd{}, api.ErrMore)
		}
	}
}

// TestP1201BytesOfNoSuchKind: where a byte is a kind that there is not, it does not matter what is behind.
func TestP1201BytesOfNoSuchKind(t *testing.T) {
	for kind := range 256 {
		head := laid(3, 4, octet(kind))
		if kind <= 6 {
			continue
		}
		for _, behind := range [][]byte{nil, {0}, make([]byte, 7), make([]byte, 8), make([]byte, 9), make([]byte, 100), bytes.Repeat([]byte{255}, 50)} {
			parses(t, fmt.Sprint("kind ", kind), slices.Concat(head, behind), api.Cmd{}, api.ErrKind)
		}
		for n := range head {
			parses(t, fmt.Sprint("kind ", kind, ", cut at ", n), head[:n], api.Cmd{}, api.ErrCut)
		}
	}
	for n := range 17 {
		parses(t, "cut ahead of the kind", bytes.Repeat([]byte{255}, n), api.Cmd{}, api.ErrCut)
	}
	parses(t, "just the kind", bytes.Repeat([]byte{255}, 17), api.Cmd{}, api.ErrKind)
}

// TestP1201LengthsThatBytesDoNotHave: such as say more than there is are cut, though other bytes follow.
func TestP1201LengthsThatBytesDoNotHave(t *testing.T) {
	for _, b := range [][]byte{
		laid(0, 0, octet(0), octet(1), octet(255), octet(255), octet(255), octet(255)),
		laid(0, 0, octet(0), octet(1), octet(0x7f), octet(255), octet(255), octet(255), "a", "b"),
		laid(0, 0, octet(0), octet(255), "a", octet(0), octet(0), 0, "", octet(0), octet(0)),
		laid(0, 0, octet(0), octet(0), octet(255)),
		laid(0, 0, octet(0), octet(0), octet(0), octet(2), octet(0), "", "", "", 0, 0),
	} {
		parses(t, fmt.Sprintf("%x", b), b, api.Cmd{}, api.ErrCut)
	}
}

// TestP1201NumbersAreNotLookedAt: Targets, Signs, Kinds of operations that are none are parsed, and refused where they are done.
func TestP1201NumbersAreNotLookedAt(t *testing.T) {
	for n := range 256 {
		c := api.Cmd{Client: -1, Seq: -1, Txn: api.Txn{If: []api.If{{Target: n, Sign: 255 - n}}, Then: []api.Op{{Kind: n}}, Else: []api.Op{{Kind: 255 - n}}}}
		b, err := machine.EncodeCmd(c)
		is(t, "EncodeCmd", err, api.OK)
		parses(t, fmt.Sprint(n), b, c, api.OK)
	}
}

// drawnText draws one of any bytes.
func drawnText(r *rand.Rand) string {
	b := make([]byte, r.Intn(2)*r.Intn(9))
	r.Read(b)
	return string(b)
}

var numbers = []int{math.MinInt, -1 << 40, -256, -1, 0, 0, 1, 2, 255, 256, 1 << 31, 1 << 40, math.MaxInt}

// drawnCmd draws a command that has bytes, with nothing in the fields that its kind does not have.
func drawnCmd(r *rand.Rand) api.Cmd {
	n := func() int { return numbers[r.Intn(len(numbers))] }
	ops := func() []api.Op {
		l := make([]api.Op, r.Intn(4))
		for i := range l {
			l[i] = api.Op{Kind: r.Intn(256), Key: drawnText(r), End: drawnText(r), Value: drawnText(r), Lease: n(), Limit: n()}
		}
		return l
	}
	c := api.Cmd{Client: n(), Seq: n(), Kind: r.Intn(7)}
	switch c.Kind {
	case api.CTxn:
		c.Txn = api.Txn{If: make([]api.If, r.Intn(4)), Then: ops(), Else: ops()}
		for i := range c.Txn.If {
			c.Txn.If[i] = api.If{Key: drawnText(r), Target: r.Intn(256), Sign: r.Intn(256), N: n(), Text: drawnText(r)}
		}
	case api.CGrant:
		c.Lease, c.TTL = n(), n()
	case api.CRenew, api.CRevoke:
		c.Lease = n()
	case api.CClock:
		c.Time = n()
	case api.CCompact:
		c.Rev = n()
	}
	return c
}

func TestP1201DrawnCommands(t *testing.T) {
	r := rand.New(rand.NewSource(1201))
	for range 5000 {
		c := drawnCmd(r)
		b, err := machine.EncodeCmd(c)
		is(t, "EncodeCmd", err, api.OK)
		parses(t, "there and back", b, c, api.OK)
		parses(t, "cut", b[:r.Intn(len(b))], api.Cmd{}, api.ErrCut)
		parses(t, "more behind", append(b, byte(r.Intn(256))), api.Cmd{}, api.ErrMore)
	}
}

// takesBytes: whatever bytes are, they are refused by an error of ParseCmd's, or the command's own.
func takesBytes(t *testing.T, b []byte) api.Errno {
	t.Helper()
	was := bytes.Clone(b)
	c, err := machine.ParseCmd(b)
	if !bytes.Equal(b, was) {
		t.Fatal("what was handed in is changed")
	}
	if err != api.OK {
		if !reflect.DeepEqual(c, api.Cmd{}) || err != api.ErrCut && err != api.ErrKind && err != api.ErrMore {
			t.Fatalf("%x: %+v, %v", b, c, err)
		}
		return err
	}
	if again, err := machine.EncodeCmd(c); err != api.OK || !bytes.Equal(again, b) {
		t.Fatalf("%x: %+v, whose bytes are %x, %v", b, c, again, err)
	}
	return err
}

func TestP1201DrawnBytes(t *testing.T) {
	r := rand.New(rand.NewSource(12010))
	told := map[api.Errno]int{}
	for range 20000 {
		b, _ := machine.EncodeCmd(drawnCmd(r))
		for range r.Intn(3) {
			b[r.Intn(len(b))] = byte(r.Intn(9))
		}
		told[takesBytes(t, b)]++
		b = make([]byte, r.Intn(60))
		r.Read(b)
		told[takesBytes(t, b)]++
	}
	for _, err := range []api.Errno{api.OK, api.ErrCut, api.ErrKind, api.ErrMore} {
		if told[err] < 100 {
			t.Errorf("%v was told %d times", err, told[err])
		}
	}
}

// TestP2ParsedIsItsOwn: what is done to the bytes later is not to be seen in it, nor does one command share anything with another.
func TestP2ParsedIsItsOwn(t *testing.T) {
	for _, x := range samples() {
		b := append(slices.Clone(x.b), make([]byte, 50)...)
		b = b[:len(x.b)]
		c, _ := machine.ParseCmd(b)
		other, _ := machine.ParseCmd(b)
		clear(b[:cap(b)])
		for _, l := range [][]api.Op{other.Txn.Then, other.Txn.Else} {
			for i := range l[:cap(l)] {
				l[:cap(l)][i] = api.Op{Key: "spoilt"}
			}
		}
		clear(other.Txn.If[:cap(other.Txn.If)])
		if !reflect.DeepEqual(plain(c), plain(x.cmd)) {
			t.Errorf("%s: %+v", x.what, c)
		}
		_ = append(c.Txn.Then, api.Op{Key: "more"}, api.Op{Key: "more"})
		if !reflect.DeepEqual(plain(c), plain(x.cmd)) {
			t.Errorf("%s: two lists share their room", x.what)
		}
	}
}

func FuzzParseCmd(f *testing.F) {
	for _, x := range samples() {
		if len(x.b) < 1000 {
			f.Add(x.b)
		}
	}
	f.Fuzz(func(t *testing.T, b []byte) { takesBytes(t, b) })
}
