package node

import (
	"slices"

	"horologe/api"
	"horologe/disk"
	"horologe/machine"
	"horologe/raft"
	"horologe/shots"
	"horologe/wal"
)

// wake makes a node of what lies on its disk.
func wake(d *disk.Disk, id int, voters []int) (*life, api.Errno) {
	meta, data, err := shots.Load(d)
	if err != api.OK && err != api.ErrNone {
		return nil, err
	}
	bare := err == api.ErrNone
	log, state, err := wal.Open(d)
	if err != api.OK {
		return nil, err
	}
	m, err := machineOf(bare, data)
	if err != api.OK {
		return nil, err
	}
	if meta.Index < state.Meta.Index {
		return nil, api.ErrBad
	}
	behind := meta.Index > state.Meta.Index
	if behind {
		state.Entries = entriesBehind(meta, state.Entries)
	}
	r, err := raft.New(id, voters, state.Hard, meta, data, state.Entries)
	if err != api.OK {
		return nil, err
	}
	if behind { // not ahead of raft's error: who is told one finds the disk as it was
		if err := log.Cut(meta); err != api.OK {
			return nil, err
		}
	}
	return &life{Raft: r, Machine: m, disk: d, log: log, applied: meta.Index}, api.OK
}

// machineOf tells the machine of a snapshot's bytes, or, without a snapshot, a new one.
func machineOf(bare bool, data []byte) (*machine.Machine, api.Errno) {
	if bare {
		return machine.New(), api.OK
	}
	return machine.Load(data)
}

// entriesBehind tells the entries that stay when a log is cut: none, unless it has the snapshot's last one.
func entriesBehind(m api.Meta, list []api.Entry) []api.Entry {
	at := slices.IndexFunc(list, func(e api.Entry) bool { return e.Index == m.Index && e.Term == m.Term })
	if at < 0 {
		return nil
	}
	return list[at+1:]
}
