package node

import (
	"slices"

	"horologe/api"
	"horologe/disk"
	"horologe/machine"
	"horologe/raft"
	"horologe/shots"
	"horologe/wal"
)

const (
	many     = 20                    // entries behind a snapshot, from which on there is to be another one
	lastShot = 1_000_000_000_000 - 1 // the greatest Index that a snapshot may have
)

// life is what a living node is made of.
type life struct {
	*raft.Raft
	*machine.Machine
	disk     *disk.Disk
	log      *wal.Log
	applied  int
	proposed []place // what this node proposed and was not done yet
}

// place is that of an entry. At one index a node may have proposed in several terms, and any of them may come to be committed.
type place struct {
	index, term int
}

func (l *life) Applied() int { return l.applied }

// propose lays a command behind the log.
func (l *life) propose(c api.Cmd) (place, api.Errno) {
	b, err := machine.EncodeCmd(c)
	if err != api.OK {
		return place{}, err
	}
	index, term, err := l.Propose(b)
	if err != api.OK {
		return place{}, err
	}
	at := place{index, term}
	l.proposed = append(l.proposed, at)
	return at, api.OK
}

// settle does all that Ready tells, till it tells nothing.
func (l *life) settle(t *told) api.Errno {
	for x := l.Ready(); !isNothing(x); x = l.Ready() {
		if err := l.do(x, t); err != api.OK {
			return err
		}
	}
	return api.OK
}

func isNothing(x raft.Ready) bool {
	return !x.HasHard && !x.HasSnap && len(x.Entries)+len(x.Msgs)+len(x.Commit)+len(x.Reads) == 0
}

// do saves ahead of sending, and sends ahead of doing. A read's Index is committed, so that behind Commit it is done.
func (l *life) do(x raft.Ready, t *told) api.Errno {
	if err := l.save(x); err != api.OK {
		return err
	}
	for _, m := range x.Msgs {
		t.add(m)
	}
	for _, e := range x.Commit {
		l.apply(e, t)
	}
	for _, r := range x.Reads {
		t.add(r)
	}
	if len(x.Commit) == 0 { // a machine that is as it was is no shorter either
		return api.OK
	}
	return l.shorten()
}

func (l *life) save(x raft.Ready) api.Errno {
	if x.HasSnap {
		if err := l.restore(x.Meta, x.Data); err != api.OK {
			return err
		}
	}
	if x.HasHard {
		return l.log.Save(&x.Hard, x.Entries...)
	}
	return l.log.Save(nil, x.Entries...)
}

// restore goes on from a snapshot that came; Step has seen that it is a machine's. What was proposed ahead of it was done elsewhere, if at all: its reply nobody knows.
func (l *life) restore(m api.Meta, data []byte) api.Errno {
	if err := l.keep(m, data); err != api.OK {
		return err
	}
	l.Machine, _ = machine.Load(data)
	l.applied = m.Index
	l.forget(m.Index)
	return api.OK
}

// keep lays a snapshot onto the disk, in the place of the log's front and of the elder one.
func (l *life) keep(m api.Meta, data []byte) api.Errno {
	if err := shots.Save(l.disk, m, data); err != api.OK {
		return err
	}
	if err := l.log.Cut(m); err != api.OK {
		return err
	}
	return shots.Trim(l.disk)
}

// apply does a committed entry.
func (l *life) apply(e api.Entry, t *told) {
	own := slices.Contains(l.proposed, place{e.Index, e.Term})
	l.applied = e.Index
	l.forget(e.Index)
	t.add(e)
	if e.Kind != api.EData {
		return
	}
	c, err := machine.ParseCmd(e.Data)
	if err != api.OK {
		return
	}
	reply := l.Apply(c)
	if own {
		t.add(Answer{e.Index, e.Term, reply})
	}
}

// forget lets go of what was proposed up to an index: it will not be done any more.
func (l *life) forget(index int) {
	l.proposed = slices.DeleteFunc(l.proposed, func(p place) bool { return p.index <= index })
}

// shorten makes a snapshot, once there are many entries behind the last one. Raft is compacted first, since it knows who votes at that index: should the disk fail behind that, nobody hears of it any more.
func (l *life) shorten() api.Errno {
	if l.applied-l.Meta().Index < many || l.applied > lastShot {
		return api.OK
	}
	data := l.Save()
	if l.Compact(l.applied, data) != api.OK { // it is too long
		return api.OK
	}
	return l.keep(l.Meta(), data)
}
