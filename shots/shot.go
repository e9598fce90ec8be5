package shots

import (
	"horologe/api"
	"horologe/pen"
)

// shot is a snapshot, as its file holds it.
type shot struct {
	meta api.Meta
	data []byte
}

// framed tells the bytes of a snapshot's file.
func framed(m api.Meta, data []byte) []byte {
	w := pen.NewWriter()
	w.Int(m.Index)
	w.Int(m.Term)
	w.U8(len(m.Voters))
	for _, v := range m.Voters {
		w.Int(v)
	}
	w.Text(string(data))
	return pen.Frame(w.Done())
}

// parse tells the snapshot of a file's bytes, and whether they are just one. The chapter asks nothing of its Term, nor of how long its data is.
func parse(b []byte) (shot, bool) {
	inner, size, err := pen.Unframe(b)
	if err != api.OK || size != len(b) {
		return shot{}, false
	}
	r := pen.NewReader(inner)
	m := api.Meta{Index: r.Int(), Term: r.Int()}
	voters := r.U8()
	if !indexFits(m.Index) || voters > api.MaxNodes {
		return shot{}, false
	}
	for range voters {
		m.Voters = append(m.Voters, r.Int())
	}
	s := shot{meta: m, data: []byte(r.Text())}
	if r.Err() != api.OK || r.Left() > 0 {
		return shot{}, false
	}
	return s, true
}
