package wal

import (
	"cmp"
	"slices"
	"strconv"

	"kiosk/api"
)

// The segments are numbered from 1 on. A log begins no more of them than these.
const (
	maxNumber   = 999999
	maxSegments = 20
)

func segmentName(number int) string { return "w" + strconv.Itoa(number) }

// segmentNumber is the number of a segment, or 0 where the name is not that of one.
func segmentNumber(name string) int {
	if name == "" {
		return 0
	}
	n, err := strconv.Atoi(name[1:])
	if err != nil || n < 1 || n > maxNumber || name != segmentName(n) {
		return 0
	}
	return n
}

func notSegment(name string) bool { return segmentNumber(name) == 0 }

func byNumber(a, b string) int { return cmp.Compare(segmentNumber(a), segmentNumber(b)) }

// Segments asks the disk, as all calls do that need them: what is there decides, not what was there.
func (w *Log) Segments() []string {
	if w.disk == nil { // a Log that Open has not made
		return nil
	}
	names := slices.DeleteFunc(w.disk.List(), notSegment)
	slices.SortFunc(names, byNumber)
	return names
}

// last is the segment that is written to, and how many bytes it has. If somebody has deleted them all, it is one that is still to be made.
func (w *Log) last() (string, int, api.Errno) {
	names := w.Segments()
	if len(names) == 0 {
		return segmentName(1), 0, api.OK
	}
	name := names[len(names)-1]
	s, e := w.disk.Read(name)
	return name, len(s), e
}

// room is the segment that entries are written to: the last one, or the next one if that is long enough. There is none behind the last number.
func (w *Log) room() (string, int, api.Errno) {
	name, size, e := w.last()
	number := segmentNumber(name)
	if e != api.OK || size < api.MaxSegment || number == maxNumber || len(w.Segments()) >= maxSegments {
		return name, size, e
	}
	return segmentName(number + 1), 0, api.OK
}

func (w *Log) write(name, records string) api.Errno {
	if e := w.disk.Append(name, records); e != api.OK {
		return e
	}
	return w.disk.Sync(name)
}

// trim takes bytes off the end of a segment.
func (w *Log) trim(name string, size int) api.Errno {
	if e := w.disk.Truncate(name, size); e != api.OK {
		return e
	}
	return w.disk.Sync(name)
}

// needed: whether a segment has an entry behind index, be it one that was replaced later.
func (w *Log) needed(name string, index int) (bool, api.Errno) {
	s, e := w.disk.Read(name)
	found := false
	scan(s, func(r record) {
		found = found || r.kind == entryKind && r.entry.Index > index
	})
	return found, e
}
