package wal_test

import (
	"math"
	"strconv"
	"strings"
	"testing"

	"kiosk/api"
	"kiosk/codec"
	"kiosk/disk"
)

// L1: a disk without a segment gets one, which is synced.
func TestOpenNew(t *testing.T) {
	d := disks(t, 1000)
	w := opens(t, d)
	lists(t, w, "w1")
	tells(t, w, hard(0, 0))
	d.Crash(nil, nil)
	reads(t, d, "w1", hardRecord(hard(0, 0)))
	d.Fuse(0)
	tells(t, opens(t, d), hard(0, 0)) // nothing is written, now that it is there
	if d.Dead() {
		t.Error("the disk was written to")
	}
}

// L1: the errors of a disk on which the first segment can't be written.
func TestOpenNewErrors(t *testing.T) {
	size := len(hardRecord(hard(0, 0)))
	failsOpen(t, disks(t, size-1), api.ErrFull)
	tells(t, opens(t, disks(t, size)), hard(0, 0))
	d := disks(t, 1000)
	for i := range 40 {
		does(t, d.Append("f"+strconv.Itoa(i), ""))
	}
	failsOpen(t, d, api.ErrMany)
	for fuse := range 2 {
		d := disks(t, 1000)
		d.Fuse(fuse)
		failsOpen(t, d, api.ErrDead)
		failsOpen(t, d, api.ErrDead)
		d.Crash(nil, nil)
		tells(t, opens(t, d), hard(0, 0))
	}
	d = disks(t, 1000)
	d.Fuse(2)
	opens(t, d)
	fails(t, d.Append("x", ""), api.ErrDead) // an Append and a Sync, and no more
}

// L1: a dead disk is not read, whatever is on it.
func TestOpenDead(t *testing.T) {
	for _, files := range [][]string{{}, {"w1", hardRecord(hard(1, 1))}, {"w1", "x", "w2", "y"}, {"x", ""}} {
		d := lays(t, 1000, files...)
		kill(t, d)
		failsOpen(t, d, api.ErrDead)
	}
}

// L1, L2: which files are segments, and that their order is that of the numbers.
func TestOpenNames(t *testing.T) {
	segments := []string{"w1", "w2", "w9", "w10", "w11", "w19", "w100", "w999", "w1000", "w99999", "w100000", "w999999"}
	d := disks(t, 10000)
	var l []api.Entry
	for i := range segments {
		k := i * 5 % len(segments) // not in order
		does(t, d.Append(segments[k], entryRecord(entry(k+1, 1, segments[k]))))
		l = append(l, entry(i+1, 1, segments[i]))
	}
	others := []string{"w", "w0", "w01", "w00", "w000001", "w0999999", "w1000000", "w1234567", "w18446744073709551617", "w99999999999999999999999", "wa", "w1a", "wa1", "ww1", "w0x1", "1", "1w", "x1", "v1", "p1", "t", "w1e1"}
	for _, s := range others {
		does(t, d.Append(s, "no records"))
	}
	w := opens(t, d)
	lists(t, w, segments...)
	tells(t, w, hard(0, 0), l...)
	for _, s := range others {
		reads(t, d, s, "no records")
	}
}

// L1: files that are no segments count as none.
func TestOpenOthersOnly(t *testing.T) {
	d := lays(t, 1000, "w0", "x", "w01", "y", "w1000000", "z", "p3", "s")
	w := opens(t, d)
	lists(t, w, "w1")
	reads(t, d, "w1", hardRecord(hard(0, 0)))
	reads(t, d, "w01", "y")
}

// "To read": what each kind of record does, and that a later one counts.
func TestOpenReads(t *testing.T) {
	h := func(term, vote int) string { return hardRecord(hard(term, vote)) }
	x := func(index, term int) string { return entryRecord(entry(index, term, "d")) }
	w := func(index, term int) api.Entry { return entry(index, term, "d") }
	for i, c := range []struct {
		files []string
		hard  api.Hard
		want  []api.Entry
	}{
		{[]string{"w1", ""}, hard(0, 0), nil},
		{[]string{"w1", h(4, 2)}, hard(4, 2), nil},
		{[]string{"w1", h(4, 2) + h(3, 0)}, hard(3, 0), nil},
		{[]string{"w1", h(4, 2), "w2", h(5, 1), "w10", h(6, 3)}, hard(6, 3), nil},
		{[]string{"w1", x(1, 1) + x(2, 1)}, hard(0, 0), []api.Entry{w(1, 1), w(2, 1)}},
		{[]string{"w1", x(1, 1) + x(2, 1) + h(1, 1) + x(2, 2)}, hard(1, 1), []api.Entry{w(1, 1), w(2, 2)}},
		{[]string{"w1", x(3, 1) + x(4, 1), "w2", x(6, 2)}, hard(0, 0), []api.Entry{w(6, 2)}},
		{[]string{"w1", x(3, 1) + x(4, 1), "w2", x(2, 2) + x(3, 2)}, hard(0, 0), []api.Entry{w(2, 2), w(3, 2)}},
		{[]string{"w1", h(7, 1) + x(3, 1) + x(4, 1) + resetRecord()}, hard(7, 1), nil},
		{[]string{"w1", x(3, 1) + resetRecord() + x(4, 1) + x(5, 2)}, hard(0, 0), []api.Entry{w(4, 1), w(5, 2)}},
		{[]string{"w1", x(3, 1), "w2", "", "w3", x(4, 1), "w4", ""}, hard(0, 0), []api.Entry{w(3, 1), w(4, 1)}},
		{[]string{"w1", resetRecord() + resetRecord() + h(0, 9)}, hard(0, 9), nil},
	} {
		d := lays(t, 10000, c.files...)
		d.Fuse(0)
		log := opens(t, d)
		if d.Dead() {
			t.Errorf("case %d: the disk was written to", i)
		}
		tells(t, log, c.hard, c.want...)
	}
}

// wrongRecords are bytes that begin with no record: a valid frame, but for the last ones.
func wrongRecords() []string {
	x := codec.Int(2, 1, 1, 2)
	most := codec.Int(math.MaxInt)
	return []string{
		frame(""), frame("x"), frame("\x80"), frame(codec.Int(0)), frame(codec.Int(4)), frame(codec.Int(-1)), frame(codec.Int(257)), frame(codec.Int(0, 1, 1)), frame(codec.Int(4, 1, 1)),
		frame(codec.Int(1)), frame(codec.Int(1, 1)), frame(codec.Int(1, 1, 1, 1)), frame(codec.Int(1, 1, 1) + "\x00"), frame(codec.Int(1, -1, 1)), frame(codec.Int(1, 1, -1)), frame(codec.Int(1, 1) + "\x81"), frame(codec.Int(1, math.MinInt, 1)), frame("\x80" + codec.Int(1, 1, 1)), frame(codec.Int(1) + "\x80\x02" + codec.Int(1)),
		frame(codec.Int(2)), frame(codec.Int(2, 1, 1)), frame(x), frame(x + "\x02"), frame(x + "\x04a"), frame(x + "\x01"), frame(x + "\x02ab"), frame(x + "\x80\x02a"), frame(x + most + "a"), frame(x + codec.Text("a") + "\x00"), frame(x + codec.Text("a", "")),
		frame(codec.Int(2, 0, 1, 2) + codec.Text("a")), frame(codec.Int(2, -1, 1, 2) + codec.Text("a")), frame(codec.Int(2, math.MinInt, 1, 2) + codec.Text("a")), frame(codec.Int(2, 1, -1, 2) + codec.Text("a")),
		frame(codec.Int(2, 1, 1, 0) + codec.Text("a")), frame(codec.Int(2, 1, 1, 4) + codec.Text("a")), frame(codec.Int(2, 1, 1, -2) + codec.Text("a")), frame(codec.Int(2, 1, 1, math.MaxInt) + codec.Text("a")),
		frame(codec.Int(3, 0)), frame(codec.Int(3) + "x"), frame(codec.Int(3, 1, 1)), frame("\x06\x06"), frame(codec.Text("a")),
		"\x00", "\x00\x00\x00", "\xff\xff\xff\xff", "\x00\x01\x00\x01abcd", "\x00\x01\x00\x01" + strings.Repeat("x", 70000), frame(codec.Int(3))[:8], entryRecord(entry(1, 1, "a"))[:12],
	}
}

// wrongSums are frames of records, with another sum.
func wrongSums() []string {
	var l []string
	for _, s := range []string{hardRecord(hard(1, 1)), entryRecord(entry(1, 1, "a")), resetRecord()} {
		for i := 4; i < len(s); i++ {
			b := []byte(s)
			b[i] ^= 1 << (i % 8)
			l = append(l, string(b))
		}
	}
	return l
}

// L1: from the first bytes on that are no record, the last segment is cut off, and that is synced.
func TestOpenTorn(t *testing.T) {
	good := hardRecord(hard(4, 2)) + entryRecord(entry(1, 3, "a"))
	for _, head := range []string{"", good} {
		for _, s := range append(wrongRecords(), wrongSums()...) {
			for _, rest := range []string{"", hardRecord(hard(9, 9)) + entryRecord(entry(2, 3, "b"))} {
				d := lays(t, 100000, "w3", head+s+rest)
				d.Fuse(2)
				w := opens(t, d)
				reads(t, d, "w3", head)
				if head == "" {
					tells(t, w, hard(0, 0))
				} else {
					tells(t, w, hard(4, 2), entry(1, 3, "a"))
				}
				fails(t, d.Append("x", ""), api.ErrDead) // a Truncate and a Sync, and no more
			}
		}
	}
}

// L1: what stays of the last segment is synced, even if it was not.
func TestOpenTornSyncs(t *testing.T) {
	d := disks(t, 1000)
	one := entry(1, 1, "a")
	does(t, d.Append("w1", hardRecord(hard(1, 1))), d.Sync("w1"), d.Append("w1", entryRecord(one)+"torn"))
	opens(t, d)
	d.Crash(nil, nil)
	tells(t, opens(t, d), hard(1, 1), one)
}

// L1: the power may go while the last segment is cut off.
func TestOpenTornErrors(t *testing.T) {
	good := hardRecord(hard(4, 2))
	for fuse := range 2 {
		d := lays(t, 1000, "w1", good+"torn")
		d.Fuse(fuse)
		failsOpen(t, d, api.ErrDead)
		d.Crash(nil, nil)
		tells(t, opens(t, d), hard(4, 2))
		reads(t, d, "w1", good)
	}
}

// L1: in another segment such bytes are an error, and nothing is written.
func TestOpenBroken(t *testing.T) {
	good := hardRecord(hard(4, 2)) + entryRecord(entry(1, 3, "a"))
	broken := func(s string, want api.Errno) {
		t.Helper()
		for _, head := range []string{"", good} {
			for _, l := range [][]string{
				{"w1", head + s, "w2", good},
				{"w1", head + s, "w2", ""},
				{"w1", head + s, "w2", "torn"},
				{"w9", head + s, "w10", good + "torn"},
				{"w1", good, "w2", head + s, "w3", good},
			} {
				d := lays(t, 1000000, l...)
				d.Fuse(0)
				failsOpen(t, d, want)
				if d.Dead() {
					t.Error("the disk was written to")
				}
				for i := 0; i < len(l); i += 2 {
					reads(t, d, l[i], l[i+1])
				}
			}
		}
	}
	for _, s := range wrongRecords() {
		broken(s, api.ErrForm)
	}
	for _, s := range wrongSums() {
		broken(s, api.ErrSum)
	}
}

// L1: of several such segments, the first one tells the error.
func TestOpenBrokenFirst(t *testing.T) {
	sum, form := wrongSums()[0], frame("x")
	for _, c := range []struct {
		files []string
		want  api.Errno
	}{
		{[]string{"w1", sum, "w2", form, "w3", ""}, api.ErrSum},
		{[]string{"w1", form, "w2", sum, "w3", ""}, api.ErrForm},
		{[]string{"w9", form, "w10", sum, "w11", sum}, api.ErrForm},
		{[]string{"w1", form + sum, "w2", sum}, api.ErrForm},
		{[]string{"w1", sum + form, "w2", form}, api.ErrSum},
	} {
		failsOpen(t, lays(t, 1000, c.files...), c.want)
	}
}

// P4: of two logs on one disk, each goes by what it was told, and by what is there.
func TestOpenTwice(t *testing.T) {
	d := disks(t, 1000)
	v, w := opens(t, d), opens(t, d)
	does(t, v.Save(hard(1, 1), []api.Entry{entry(1, 1, "a")}))
	tells(t, w, hard(0, 0))
	does(t, w.Save(hard(0, 0), []api.Entry{entry(2, 0, "b")}))
	tells(t, v, hard(1, 1), entry(1, 1, "a"))
	tells(t, opens(t, d), hard(1, 1), entry(1, 1, "a"), entry(2, 0, "b"))
}

// P1: where a segment was emptied, or all were deleted, calls go by what is there.
func TestSegmentsGone(t *testing.T) {
	calls := func() (*disk.Disk, func(name, want string)) {
		d := disks(t, 1000)
		w := opens(t, d)
		does(t, w.Save(hard(1, 1), []api.Entry{entry(1, 1, "a")}))
		return d, func(name, want string) {
			t.Helper()
			does(t, w.Save(hard(1, 1), []api.Entry{entry(2, 1, "b")}), w.Reset(), w.Cut(0))
			lists(t, w, name)
			reads(t, d, name, want)
		}
	}
	want := hardRecord(hard(1, 1)) + entryRecord(entry(2, 1, "b")) + resetRecord()
	d, check := calls()
	does(t, d.Truncate("w1", 0))
	check("w1", want)
	d, check = calls()
	does(t, d.Delete("w1"))
	check("w1", want)
	d, check = calls()
	does(t, d.Rename("w1", "w7"), d.Truncate("w7", 0))
	check("w7", want)
	d = disks(t, 1000)
	w := opens(t, d)
	does(t, d.Delete("w1"), w.Cut(5))
	lists(t, w)
	does(t, w.Reset())
	reads(t, d, "w1", hardRecord(hard(0, 0))+resetRecord())
}
