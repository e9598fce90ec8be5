package machine

import (
	"math"
	"slices"

	"horologe/api"
	"horologe/pen"
)

func EncodeCmd(c api.Cmd) ([]byte, api.Errno) {
	inner := commandOf(c)
	if inner == nil {
		return nil, api.ErrKind
	}
	if t, is := inner.(transaction); is {
		if err := t.refuse(); err != api.OK {
			return nil, err
		}
	}
	w := pen.NewWriter()
	w.Int(c.Client)
	w.Int(c.Seq)
	w.U8(c.Kind)
	inner.write(w)
	return w.Done(), api.OK
}

func ParseCmd(b []byte) (api.Cmd, api.Errno) {
	r := pen.NewReader(b)
	c := api.Cmd{Client: r.Int(), Seq: r.Int(), Kind: r.U8()}
	is := readInto(&c, r)
	switch {
	case r.Err() != api.OK:
		return api.Cmd{}, r.Err()
	case !is:
		return api.Cmd{}, api.ErrKind
	case r.Left() > 0:
		return api.Cmd{}, api.ErrMore
	}
	return c, api.OK
}

// refuse tells why a transaction has no bytes: there is one byte for each of these numbers.
func (t transaction) refuse() api.Errno {
	if len(t.If) > math.MaxUint8 || len(t.Then) > math.MaxUint8 || len(t.Else) > math.MaxUint8 {
		return api.ErrMany
	}
	badIf := func(c api.If) bool { return !isByte(c.Target) || !isByte(c.Sign) }
	badOp := func(op api.Op) bool { return !isByte(op.Kind) }
	if slices.ContainsFunc(t.If, badIf) || slices.ContainsFunc(t.Then, badOp) || slices.ContainsFunc(t.Else, badOp) {
		return api.ErrArg
	}
	return api.OK
}

func isByte(n int) bool { return n >= 0 && n <= math.MaxUint8 }

func (t transaction) write(w *pen.Writer) {
	w.U8(len(t.If))
	for _, c := range t.If {
		w.Text(c.Key)
		w.U8(c.Target)
		w.U8(c.Sign)
		w.Int(c.N)
		w.Text(c.Text)
	}
	writeOps(w, t.Then)
	writeOps(w, t.Else)
}

func writeOps(w *pen.Writer, ops []api.Op) {
	w.U8(len(ops))
	for _, op := range ops {
		w.U8(op.Kind)
		w.Text(op.Key)
		w.Text(op.End)
		w.Text(op.Value)
		w.Int(op.Lease)
		w.Int(op.Limit)
	}
}

func (n named) write(w *pen.Writer) { w.Int(n.id) }

func (g grant) write(w *pen.Writer) {
	g.named.write(w)
	w.Int(g.ttl)
}

func (s setting) write(w *pen.Writer) { w.Int(s.time) }

func (expiry) write(*pen.Writer) {}

func (c compaction) write(w *pen.Writer) { w.Int(c.rev) }

// readInto reads what a command of c's kind has; false, if there is no such kind.
func readInto(c *api.Cmd, r *pen.Reader) bool {
	switch c.Kind {
	case api.CTxn:
		c.Txn = api.Txn{If: readList(r, r.U8(), readIf), Then: readList(r, r.U8(), readOp), Else: readList(r, r.U8(), readOp)}
	case api.CGrant:
		c.Lease, c.TTL = r.Int(), r.Int()
	case api.CRenew, api.CRevoke:
		c.Lease = r.Int()
	case api.CClock:
		c.Time = r.Int()
	case api.CExpire:
	case api.CCompact:
		c.Rev = r.Int()
	default:
		return false
	}
	return true
}

func readIf(r *pen.Reader) api.If {
	return api.If{Key: r.Text(), Target: r.U8(), Sign: r.U8(), N: r.Int(), Text: r.Text()}
}

func readOp(r *pen.Reader) api.Op {
	return api.Op{Kind: r.U8(), Key: r.Text(), End: r.Text(), Value: r.Text(), Lease: r.Int(), Limit: r.Int()}
}

// readList reads n of a kind. It ends where bytes lack: n may be any number that bytes can say.
func readList[T any](r *pen.Reader, n int, read func(*pen.Reader) T) []T {
	var list []T
	for ; n > 0 && r.Err() == api.OK; n-- {
		list = append(list, read(r))
	}
	return list
}
