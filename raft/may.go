package raft

import (
	"math"

	"horologe/api"
)

const (
	ids      = 1 << 30 // they are those from 0 on, below it
	idSize   = 8       // bytes of an id in an EVoters
	maxIndex = 1 << 62
	maxSnap  = 1_000_000_000_000 - 1 // the greatest Index of a snapshot that is sent
)

func isId(n int) bool { return n >= 0 && n < ids }

func areVoters(list []int) bool {
	for i, id := range list {
		if !isId(id) || i > 0 && list[i-1] >= id {
			return false
		}
	}
	return len(list) >= 1 && len(list) <= api.MaxNodes
}

func isHard(h api.Hard) bool {
	return h.Term >= 0 && h.Term <= maxTerm && h.Vote >= nobody && h.Commit >= 0
}

// isMeta tells whether a log may begin behind it: who votes is not asked where there is no snapshot.
func isMeta(m api.Meta) bool {
	return m.Index >= 0 && m.Index <= maxIndex && m.Term >= 0 && m.Term <= maxTerm && (m.Index == 0 || areVoters(m.Voters))
}

// inOrder tells whether entries may stand one behind the other, from behind an index and a term on, no Term being above most.
func inOrder(index, term, most int, list []api.Entry) bool {
	for _, e := range list {
		if index == math.MaxInt || e.Index != index+1 || e.Term < term || e.Term > most || !isEntry(e) {
			return false
		}
		index, term = e.Index, e.Term
	}
	return true
}

// isEntry tells whether an entry's Kind and Data may be, wherever it stands.
func isEntry(e api.Entry) bool {
	switch e.Kind {
	case api.EVoters:
		if !areVoters(votersOf(e.Data)) {
			return false
		}
		fallthrough
	case api.EData, api.EEmpty:
		return len(e.Data) <= api.MaxRecord
	}
	return false
}

func tellsVoters(e api.Entry) bool { return e.Kind == api.EVoters }

// isSnap tells whether a message's snapshot may be.
func isSnap(m api.Msg) bool {
	return m.Meta.Index >= 1 && m.Meta.Index <= maxSnap && areVoters(m.Meta.Voters) && m.Meta.Term >= 0 && m.Meta.Term <= m.Term && len(m.Data) <= maxData
}

// votersOf reads an EVoters' Data: none, if it does not tell ids.
func votersOf(data []byte) []int {
	if len(data) == 0 || len(data) != 1+idSize*int(data[0]) {
		return nil
	}
	var list []int
	for b := data[1:]; len(b) > 0; b = b[idSize:] {
		n := uint64(0)
		for _, x := range b[:idSize] {
			n = n<<8 | uint64(x)
		}
		list = append(list, int(n)) // one of 2^63 or more is below 0, and no id
	}
	return list
}

// dataOf writes an EVoters' Data.
func dataOf(voters []int) []byte {
	data := []byte{byte(len(voters))}
	for _, id := range voters {
		for shift := 8 * (idSize - 1); shift >= 0; shift -= 8 {
			data = append(data, byte(id>>shift))
		}
	}
	return data
}
