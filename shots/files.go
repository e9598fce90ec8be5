package shots

import (
	"strconv"
	"strings"

	"horologe/api"
	"horologe/disk"
)

// Names of files: those of snapshots, and the one that is not yet a snapshot's.
const (
	prefix     = "shot-"
	digits     = 12
	lastIndex  = 999999999999
	besideName = "shot.new"
)

// indexFits tells whether a snapshot may have it.
func indexFits(index int) bool { return index >= 1 && index <= lastIndex }

// fileName tells the name of an Index from 0 to lastIndex.
func fileName(index int) string {
	s := strconv.Itoa(index)
	return prefix + strings.Repeat("0", max(digits-len(s), 0)) + s
}

// indexOf tells a name's Index, and whether it is of the form of a snapshot's file. So is that of Index 0, though no snapshot that is whole has it.
func indexOf(name string) (int, bool) {
	s, is := strings.CutPrefix(name, prefix)
	if !is || len(s) != digits {
		return 0, false
	}
	index := 0
	for _, r := range s {
		if r < '0' || r > '9' {
			return 0, false
		}
		index = index*10 + int(r-'0')
	}
	return index, true
}

// filesOf tells the Indexes of a disk's snapshots, whole or not; as names rise, so do they, all of twelve digits.
func filesOf(d *disk.Disk) ([]int, api.Errno) {
	names, err := d.List()
	if err != api.OK {
		return nil, err
	}
	var all []int
	for _, name := range names {
		if index, is := indexOf(name); is {
			all = append(all, index)
		}
	}
	return all, api.OK
}

// layBeside lays bytes into the file that is not yet a snapshot's; what a crash left there is taken away first.
func layBeside(d *disk.Disk, b []byte, left bool) api.Errno {
	if left {
		if err := d.Remove(besideName); err != api.OK {
			return err
		}
	}
	if err := d.Append(besideName, b); err != api.OK {
		return err
	}
	return d.Sync(besideName)
}
