package wal

import (
	"strconv"
	"strings"

	"horologe/api"
	"horologe/disk"
)

// Names of files: those of the log, and the one that is not yet the log's.
const (
	prefix     = "wal-"
	digits     = 8
	lastNumber = 99999999
	besideName = "wal.new"
)

// fileName tells the name of a number from 1 to lastNumber.
func fileName(number int) string {
	s := strconv.Itoa(number)
	return prefix + strings.Repeat("0", max(digits-len(s), 0)) + s
}

// numberOf tells a name's number, or 0, if it is no file of the log.
func numberOf(name string) int {
	s, is := strings.CutPrefix(name, prefix)
	if !is || len(s) != digits {
		return 0
	}
	number := 0
	for _, r := range s {
		if r < '0' || r > '9' {
			return 0
		}
		number = number*10 + int(r-'0')
	}
	return number
}

// numbersOf tells those of the log's files among names; as names rise, so do numbers, all of eight digits.
func numbersOf(names []string) []int {
	var all []int
	for _, name := range names {
		if number := numberOf(name); number > 0 {
			all = append(all, number)
		}
	}
	return all
}

// nextNumber tells that of a new file behind those that are there. Behind the last one no name is left, which is as if there were no room.
func nextNumber(numbers []int) (int, api.Errno) {
	newest := 0
	if len(numbers) > 0 {
		newest = numbers[len(numbers)-1]
	}
	if newest == lastNumber {
		return 0, api.ErrFull
	}
	return newest + 1, api.OK
}

// layBeside lays bytes into the file that is not yet the log's; what a crash left there is taken away first.
func layBeside(d *disk.Disk, b []byte, left bool) api.Errno {
	if left {
		if err := d.Remove(besideName); err != api.OK {
			return err
		}
	}
	if err := d.Append(besideName, b); err != api.OK {
		return err
	}
	return d.Sync(besideName)
}
