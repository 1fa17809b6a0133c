package wal_test

import (
	"math"
	"slices"
	"strconv"
	"strings"
	"testing"

	"kiosk/api"
	"kiosk/codec"
	"kiosk/disk"
	"kiosk/wal"
)

func disks(t *testing.T, most int) *disk.Disk {
	t.Helper()
	d, e := disk.New(most)
	if e != api.OK {
		t.Fatalf("New(%d): %v", most, e)
	}
	return d
}

func opens(t *testing.T, d *disk.Disk) *wal.Log {
	t.Helper()
	w, e := wal.Open(d)
	if w == nil || e != api.OK {
		t.Fatalf("Open: %v", e)
	}
	return w
}

func failsOpen(t *testing.T, d *disk.Disk, want api.Errno) {
	t.Helper()
	if w, e := wal.Open(d); w != nil || e != want {
		t.Errorf("Open: %v, not %v", e, want)
	}
}

// does fails at the first call that was not answered with OK.
func does(t *testing.T, l ...api.Errno) {
	t.Helper()
	for i, e := range l {
		if e != api.OK {
			t.Fatalf("call %d: %v", i, e)
		}
	}
}

func fails(t *testing.T, e, want api.Errno) {
	t.Helper()
	if e != want {
		t.Errorf("%v, not %v", e, want)
	}
}

func hard(term, vote int) api.Hard { return api.Hard{Term: term, Vote: vote} }

func entry(index, term int, data string) api.Entry {
	return api.Entry{Index: index, Term: term, Kind: api.Command, Data: data}
}

func frame(payload string) string {
	f, e := codec.Frame(payload)
	if e != api.OK {
		panic(e)
	}
	return f
}

func hardRecord(h api.Hard) string { return frame(codec.Int(1, h.Term, h.Vote)) }

func entryRecord(x api.Entry) string {
	return frame(codec.Int(2, x.Index, x.Term, x.Kind) + codec.Text(x.Data))
}

func resetRecord() string { return frame(codec.Int(3)) }

// shown is hard and l on one line.
func shown(h api.Hard, l []api.Entry) string {
	var b strings.Builder
	b.WriteString(strconv.Itoa(h.Term) + " " + strconv.Itoa(h.Vote))
	for _, x := range l {
		b.WriteString(" " + strconv.Itoa(x.Index) + "." + strconv.Itoa(x.Term) + "." + strconv.Itoa(x.Kind) + strconv.Quote(x.Data))
	}
	return b.String()
}

func told(w *wal.Log) string { return shown(w.Hard(), w.Entries()) }

func tells(t *testing.T, w *wal.Log, h api.Hard, l ...api.Entry) {
	t.Helper()
	if s, want := told(w), shown(h, l); s != want {
		t.Errorf("%.200s, not %.200s", s, want)
	}
}

func lists(t *testing.T, w *wal.Log, want ...string) {
	t.Helper()
	if l := w.Segments(); !slices.Equal(l, want) {
		t.Errorf("Segments: %q, not %q", l, want)
	}
}

func reads(t *testing.T, d *disk.Disk, name, want string) {
	t.Helper()
	if s, e := d.Read(name); s != want || e != api.OK {
		t.Errorf("Read(%q): %.80q %v, not %.80q", name, s, e, want)
	}
}

// lays is a disk with these files, all of them synced.
func lays(t *testing.T, most int, files ...string) *disk.Disk {
	t.Helper()
	d := disks(t, most)
	for i := 0; i < len(files); i += 2 {
		does(t, d.Append(files[i], files[i+1]), d.Sync(files[i]))
	}
	return d
}

// kill lets the power go, with no other change of the disk.
func kill(t *testing.T, d *disk.Disk) {
	t.Helper()
	d.Fuse(0)
	fails(t, d.Append("x", ""), api.ErrDead)
}

// filler is a segment of so many bytes: a hard state and entry 1.
func filler(t *testing.T, h api.Hard, size int) (string, api.Entry) {
	t.Helper()
	for n := range size {
		x := entry(1, h.Term, strings.Repeat("f", size-n))
		if s := hardRecord(h) + entryRecord(x); len(s) == size {
			return s, x
		}
	}
	t.Fatalf("no segment of %d bytes", size)
	return "", api.Entry{}
}

// The chapter's examples.
func TestExamples(t *testing.T) {
	w := opens(t, disks(t, 10000))
	lists(t, w, "w1")
	tells(t, w, hard(0, 0))
	does(t, w.Save(hard(1, 2), []api.Entry{entry(1, 1, "a"), entry(2, 1, "b")}))
	does(t, w.Save(hard(1, 2), []api.Entry{entry(2, 1, "c")}))
	tells(t, w, hard(1, 2), entry(1, 1, "a"), entry(2, 1, "c"))
	does(t, w.Save(hard(1, 2), []api.Entry{entry(7, 2, "x")}))
	tells(t, w, hard(1, 2), entry(7, 2, "x"))
	does(t, w.Reset())
	tells(t, w, hard(1, 2))
}

// L3, L4: what a call does to the disk is an Append of these bytes and a Sync, no more calls and no fewer.
func TestCallsWrite(t *testing.T) {
	one, two := entry(1, 3, "a\x00\xff"), api.Entry{Index: 2, Term: 4, Kind: api.Config}
	for i, c := range []struct {
		segment string
		call    func(w *wal.Log) api.Errno
		adds    string
	}{
		{hardRecord(hard(3, 1)), func(w *wal.Log) api.Errno { return w.Save(hard(3, 1), nil) }, ""},
		{hardRecord(hard(3, 1)), func(w *wal.Log) api.Errno { return w.Save(hard(3, 1), []api.Entry{}) }, ""},
		{hardRecord(hard(3, 1)), func(w *wal.Log) api.Errno { return w.Save(hard(3, 2), nil) }, hardRecord(hard(3, 2))},
		{hardRecord(hard(3, 1)), func(w *wal.Log) api.Errno { return w.Save(hard(0, 1), nil) }, hardRecord(hard(0, 1))},
		{hardRecord(hard(3, 1)), func(w *wal.Log) api.Errno { return w.Save(hard(3, 1), []api.Entry{one, two}) }, entryRecord(one) + entryRecord(two)},
		{hardRecord(hard(3, 1)), func(w *wal.Log) api.Errno { return w.Save(hard(4, 0), []api.Entry{two, one}) }, hardRecord(hard(4, 0)) + entryRecord(two) + entryRecord(one)},
		{"", func(w *wal.Log) api.Errno { return w.Save(hard(0, 0), nil) }, ""},
		{"", func(w *wal.Log) api.Errno { return w.Save(hard(0, 0), []api.Entry{one}) }, hardRecord(hard(0, 0)) + entryRecord(one)},
		{"", func(w *wal.Log) api.Errno { return w.Save(hard(5, 0), nil) }, hardRecord(hard(5, 0))},
		{hardRecord(hard(3, 1)) + entryRecord(one), (*wal.Log).Reset, resetRecord()},
		{hardRecord(hard(3, 1)), (*wal.Log).Reset, resetRecord()},
		{"", (*wal.Log).Reset, hardRecord(hard(0, 0)) + resetRecord()},
	} {
		d := lays(t, 10000, "w5", c.segment)
		w := opens(t, d)
		d.Fuse(2)
		does(t, c.call(w))
		reads(t, d, "w5", c.segment+c.adds)
		calls := 2
		for d.Append("x", "") == api.OK {
			calls--
		}
		if want := min(2, 2*len(c.adds)); calls != want {
			t.Errorf("call %d: %d calls of the disk, not %d", i, calls, want)
		}
		d.Crash(nil, nil)
		reads(t, d, "w5", c.segment+c.adds) // all of it was synced
		if told(opens(t, d)) != told(w) {
			t.Errorf("call %d: %s, and opened again %s", i, told(w), told(opens(t, d)))
		}
	}
}

// L3, "to read": where an entry goes among those that are there, and that reading them again tells the same.
func TestPlaces(t *testing.T) {
	a, b, c := entry(3, 1, "a"), entry(4, 1, "b"), entry(5, 1, "c")
	for _, p := range []struct {
		x    api.Entry
		want []api.Entry
	}{
		{entry(1, 2, "x"), []api.Entry{entry(1, 2, "x")}},
		{entry(2, 2, "x"), []api.Entry{entry(2, 2, "x")}},
		{entry(3, 2, "x"), []api.Entry{entry(3, 2, "x")}},
		{entry(4, 2, "x"), []api.Entry{a, entry(4, 2, "x")}},
		{entry(5, 2, "x"), []api.Entry{a, b, entry(5, 2, "x")}},
		{entry(6, 2, "x"), []api.Entry{a, b, c, entry(6, 2, "x")}},
		{entry(7, 2, "x"), []api.Entry{entry(7, 2, "x")}},
		{entry(4, 1, "b"), []api.Entry{a, b}}, // the same one removes what is behind it
		{entry(math.MaxInt, 0, ""), []api.Entry{entry(math.MaxInt, 0, "")}},
	} {
		d := disks(t, 10000)
		w := opens(t, d)
		does(t, w.Save(hard(0, 0), []api.Entry{a, b, c}), w.Save(hard(2, 0), []api.Entry{p.x}))
		tells(t, w, hard(2, 0), p.want...)
		tells(t, opens(t, d), hard(2, 0), p.want...)
		d = disks(t, 10000)
		w = opens(t, d)
		does(t, w.Save(hard(2, 0), []api.Entry{a, b, c, p.x})) // in one Save too
		tells(t, w, hard(2, 0), p.want...)
	}
}

// L3: numbers that don't fit, of each kind, leave everything as it is.
func TestSaveArg(t *testing.T) {
	good := entry(1, 1, "a")
	d := disks(t, 200000)
	w := opens(t, d)
	does(t, w.Save(hard(1, 1), []api.Entry{good}))
	before, _ := d.Read("w1")
	d.Fuse(0)
	for i, c := range []struct {
		h api.Hard
		l []api.Entry
	}{
		{hard(-1, 1), nil}, {hard(1, -1), nil}, {hard(math.MinInt, math.MinInt), nil}, {hard(-1, 0), []api.Entry{good}},
		{hard(1, 1), []api.Entry{entry(0, 1, "")}}, {hard(1, 1), []api.Entry{entry(-1, 1, "")}}, {hard(1, 1), []api.Entry{entry(math.MinInt, 1, "")}},
		{hard(1, 1), []api.Entry{entry(1, -1, "")}}, {hard(1, 1), []api.Entry{entry(1, math.MinInt, "")}},
		{hard(1, 1), []api.Entry{{Index: 1, Term: 1}}}, {hard(1, 1), []api.Entry{{Index: 1, Kind: 4}}}, {hard(1, 1), []api.Entry{{Index: 1, Kind: -1}}},
		{hard(1, 1), []api.Entry{{Index: 1, Kind: math.MaxInt}}}, {hard(1, 1), []api.Entry{{}}},
		{hard(2, 2), []api.Entry{good, entry(2, 1, "b"), entry(0, 1, "c")}},
		{hard(1, 1), []api.Entry{good, entry(2, 1, strings.Repeat("x", 70000))}},
	} {
		if e := w.Save(c.h, c.l); e != api.ErrArg {
			t.Errorf("call %d: %v", i, e)
		}
	}
	tells(t, w, hard(1, 1), good)
	if d.Dead() {
		t.Error("the disk was written to")
	}
	reads(t, d, "w1", before)
	kill(t, d)
	fails(t, w.Save(hard(1, -1), nil), api.ErrArg) // ahead of the disk's errors
}

// L3: the greatest numbers, each kind, and the longest data that a frame holds.
func TestSaveEdges(t *testing.T) {
	d := disks(t, 200000)
	w := opens(t, d)
	h := hard(math.MaxInt, math.MaxInt)
	l := []api.Entry{{Index: 1, Kind: api.Noop}, {Index: 2, Kind: api.Command, Data: "\x00"}, {Index: 3, Term: math.MaxInt, Kind: api.Config, Data: "ü"}}
	does(t, w.Save(h, l))
	tells(t, w, h, l...)
	tells(t, opens(t, d), h, l...)
	const most = 65536 - 1 - 1 - 1 - 1 - 3 // four short numbers, and one of three bytes for the length
	fails(t, w.Save(h, []api.Entry{entry(4, 1, strings.Repeat("x", most+1))}), api.ErrArg)
	long := entry(4, 1, strings.Repeat("x", most))
	does(t, w.Save(h, []api.Entry{long}))
	tells(t, opens(t, d), h, append(l, long)...)
	fails(t, w.Save(h, []api.Entry{entry(64, 1, strings.Repeat("x", most))}), api.ErrArg) // an Index of two bytes
	does(t, w.Save(h, []api.Entry{entry(64, 1, strings.Repeat("x", most-1))}))
	last := entry(math.MaxInt, 1, "last")
	does(t, w.Save(h, []api.Entry{last}))
	tells(t, w, h, last)
	does(t, w.Save(h, []api.Entry{last, entry(1, 1, "first")}))
	tells(t, w, h, entry(1, 1, "first"))
	tells(t, opens(t, d), h, entry(1, 1, "first"))
}

// L5: at the greatest Index, where none follows, there is no gap either, and an Open tells the same.
func TestGreatestIndex(t *testing.T) {
	for _, index := range []int{1, math.MaxInt - 2, math.MaxInt - 1, math.MaxInt} {
		d := disks(t, 10000)
		w := opens(t, d)
		does(t, w.Save(hard(0, 0), []api.Entry{entry(math.MaxInt-1, 1, "a"), entry(math.MaxInt, 1, "b")}))
		does(t, w.Save(hard(0, 0), []api.Entry{entry(index, 2, "x")}))
		l := w.Entries()
		for i, x := range l {
			if x.Index != index-len(l)+1+i {
				t.Errorf("%d: %s", index, told(w))
			}
		}
		if l[len(l)-1] != entry(index, 2, "x") || told(opens(t, d)) != told(w) {
			t.Errorf("%d: %s", index, told(w))
		}
	}
}

// L3: with nothing to store, nothing is done, even where nothing could be.
func TestSaveNothing(t *testing.T) {
	d := lays(t, 10000, "w1", strings.Repeat(hardRecord(hard(6, 2)), 300))
	w := opens(t, d)
	d.Fuse(0)
	does(t, w.Save(hard(6, 2), nil), w.Save(hard(6, 2), []api.Entry{}))
	if d.Dead() {
		t.Error("the disk was written to")
	}
	lists(t, w, "w1")
	kill(t, d)
	does(t, w.Save(hard(6, 2), nil))
	fails(t, w.Save(hard(6, 1), nil), api.ErrDead)
	fails(t, w.Save(hard(6, 2), []api.Entry{entry(1, 1, "")}), api.ErrDead)
	tells(t, w, hard(6, 2))
}

// L3, L4: the errors of the disk are handed on, and nothing takes effect.
func TestWriteErrors(t *testing.T) {
	one, two := entry(1, 1, "one"), entry(2, 2, "two")
	start := hardRecord(hard(1, 1)) + entryRecord(one)
	for _, call := range []func(w *wal.Log) api.Errno{
		func(w *wal.Log) api.Errno { return w.Save(hard(2, 0), []api.Entry{two}) },
		func(w *wal.Log) api.Errno { return w.Save(hard(2, 0), nil) },
		func(w *wal.Log) api.Errno { return w.Save(hard(1, 1), []api.Entry{two}) },
		(*wal.Log).Reset,
	} {
		full := lays(t, len(start), "w1", start)
		w := opens(t, full)
		fails(t, call(w), api.ErrFull)
		tells(t, w, hard(1, 1), one)
		reads(t, full, "w1", start)
		for fuse := range 2 {
			d := lays(t, 10000, "w1", start)
			w := opens(t, d)
			d.Fuse(fuse)
			fails(t, call(w), api.ErrDead)
			fails(t, call(w), api.ErrDead)
			tells(t, w, hard(1, 1), one)
			lists(t, w, "w1")
			d.Crash(nil, nil)
			reads(t, d, "w1", start)
			does(t, call(w)) // the log goes on
		}
	}
}

// L3: a next segment is begun at 2000 bytes, begins with the hard state, and is what is written to then.
func TestNextSegment(t *testing.T) {
	h := hard(5, 1)
	two, three := entry(2, 5, "2"), entry(3, 6, "3")
	for size := 1998; size <= 2002; size++ {
		start, one := filler(t, h, size)
		d := lays(t, 10000, "w9", start)
		w := opens(t, d)
		lists(t, w, "w9")
		does(t, w.Save(h, []api.Entry{two}))
		if size < 2000 {
			lists(t, w, "w9")
			reads(t, d, "w9", start+entryRecord(two))
			continue
		}
		lists(t, w, "w9", "w10")
		reads(t, d, "w9", start)
		reads(t, d, "w10", hardRecord(h)+entryRecord(two))
		does(t, w.Save(hard(6, 0), []api.Entry{three}))
		lists(t, w, "w9", "w10")
		reads(t, d, "w10", hardRecord(h)+entryRecord(two)+hardRecord(hard(6, 0))+entryRecord(three))
		tells(t, w, hard(6, 0), one, two, three)
		tells(t, opens(t, d), hard(6, 0), one, two, three)
	}
}

// L3: a next segment for a hard state alone has one record of it; a Reset begins none.
func TestNextSegmentOther(t *testing.T) {
	start, one := filler(t, hard(5, 1), 2500)
	d := lays(t, 10000, "w1", start)
	w := opens(t, d)
	does(t, w.Reset())
	lists(t, w, "w1")
	reads(t, d, "w1", start+resetRecord())
	does(t, w.Save(hard(6, 0), nil))
	lists(t, w, "w1", "w2")
	reads(t, d, "w2", hardRecord(hard(6, 0)))
	does(t, w.Save(hard(6, 0), []api.Entry{one}))
	tells(t, opens(t, d), hard(6, 0), one)
}

// L3: a next segment that can't be begun leaves the log as it was.
func TestNextSegmentErrors(t *testing.T) {
	h := hard(5, 1)
	start, one := filler(t, h, 2000)
	two := entry(2, 5, "2")
	add := len(hardRecord(h) + entryRecord(two))
	d := lays(t, 2000+add-1, "w1", start)
	w := opens(t, d)
	fails(t, w.Save(h, []api.Entry{two}), api.ErrFull)
	lists(t, w, "w1")
	tells(t, w, h, one)
	does(t, d.Append("x", ""))
	for i := range 38 {
		does(t, d.Append("x"+strconv.Itoa(i), ""))
	}
	fails(t, w.Save(h, []api.Entry{two}), api.ErrMany)
	lists(t, w, "w1")
	tells(t, w, h, one)
	does(t, w.Cut(9), d.Delete("x"))
	fails(t, w.Save(h, []api.Entry{two}), api.ErrFull)

	d = lays(t, 2000+add, "w1", start)
	w = opens(t, d)
	does(t, w.Save(h, []api.Entry{two}))
	tells(t, opens(t, d), h, one, two)
}

// L3: there are no more than twenty segments, however long the last one gets, until some are cut.
func TestTwentySegments(t *testing.T) {
	d := disks(t, 1000000)
	w := opens(t, d)
	h := hard(5, 0)
	var l []api.Entry
	for i := 1; i <= 50; i++ {
		x := entry(i, 5, strings.Repeat("b", 2000))
		does(t, w.Save(h, []api.Entry{x}))
		l = append(l, x)
		if n := len(w.Segments()); n != min(i, 20) {
			t.Fatalf("%d segments with %d entries", n, i)
		}
	}
	tells(t, opens(t, d), h, l...)
	does(t, w.Cut(1))
	x := entry(51, 5, "x")
	does(t, w.Save(h, []api.Entry{x}))
	reads(t, d, "w21", hardRecord(h)+entryRecord(x))
	if names := w.Segments(); len(names) != 20 || names[0] != "w2" || names[19] != "w21" {
		t.Error(names)
	}
}

// L3: more segments than twenty may lie on a disk; the last one is then written to.
func TestMoreSegments(t *testing.T) {
	start, one := filler(t, hard(1, 1), 2000)
	d := disks(t, 100000)
	for i := range 25 {
		does(t, d.Append("w"+strconv.Itoa(100-i), start))
	}
	w := opens(t, d)
	does(t, w.Save(hard(1, 1), []api.Entry{entry(2, 1, "x")}))
	reads(t, d, "w100", start+entryRecord(entry(2, 1, "x")))
	if len(w.Segments()) != 25 {
		t.Error(w.Segments())
	}
	tells(t, opens(t, d), hard(1, 1), one, entry(2, 1, "x"))
}

// L3, L5: behind the greatest number there is no segment that could be begun: what is saved is not lost.
func TestLastNumber(t *testing.T) {
	start, one := filler(t, hard(1, 1), 2000)
	d := lays(t, 100000, "w999998", start)
	w := opens(t, d)
	big, two := entry(2, 1, strings.Repeat("x", 2000)), entry(3, 1, "x")
	does(t, w.Save(hard(1, 1), []api.Entry{big}), w.Save(hard(1, 1), []api.Entry{two}))
	lists(t, w, "w999998", "w999999")
	tells(t, w, hard(1, 1), one, big, two)
	tells(t, opens(t, d), hard(1, 1), one, big, two)
}

// L4: a Reset is of the entries alone, and those that come then begin anywhere.
func TestReset(t *testing.T) {
	d := disks(t, 10000)
	w := opens(t, d)
	does(t, w.Reset()) // of nothing
	does(t, w.Save(hard(3, 2), []api.Entry{entry(5, 1, "a"), entry(6, 2, "b")}), w.Reset())
	tells(t, w, hard(3, 2))
	tells(t, opens(t, d), hard(3, 2))
	does(t, w.Save(hard(3, 2), []api.Entry{entry(6, 3, "c")}), w.Save(hard(3, 2), []api.Entry{entry(7, 3, "d")}))
	tells(t, w, hard(3, 2), entry(6, 3, "c"), entry(7, 3, "d"))
	tells(t, opens(t, d), hard(3, 2), entry(6, 3, "c"), entry(7, 3, "d"))
}

// P3: what is handed in stays as it is, up to its length, and what is answered is the caller's own.
func TestSharesNothing(t *testing.T) {
	w := opens(t, disks(t, 10000))
	l := []api.Entry{entry(1, 1, "a"), entry(2, 1, "b"), entry(3, 1, "c")}
	does(t, w.Save(hard(1, 1), l[:2]))
	l[0].Data, l[1].Index = "z", 9
	if l[2] != entry(3, 1, "c") {
		t.Error(l)
	}
	first, names := w.Entries(), w.Segments()
	first[0].Data, names[0] = "y", "w7"
	tells(t, w, hard(1, 1), entry(1, 1, "a"), entry(2, 1, "b"))
	lists(t, w, "w1")
	second := w.Entries()
	does(t, w.Save(hard(1, 1), []api.Entry{entry(1, 2, "x")}), w.Save(hard(1, 1), []api.Entry{entry(2, 2, "y")}))
	if shown(hard(1, 1), second) != shown(hard(1, 1), []api.Entry{entry(1, 1, "a"), entry(2, 1, "b")}) {
		t.Error("an earlier answer has changed")
	}
	third := append(w.Entries(), entry(9, 9, ""))
	does(t, w.Save(hard(1, 1), []api.Entry{entry(3, 2, "z")}))
	if third[2].Index != 9 {
		t.Error("an answer is written to")
	}
}

// P1: a log that Open has not made has no disk.
func TestZeroLog(t *testing.T) {
	var w wal.Log
	tells(t, &w, hard(0, 0))
	lists(t, &w)
	does(t, w.Save(hard(0, 0), nil))
	fails(t, w.Save(hard(-1, 0), nil), api.ErrArg)
	fails(t, w.Save(hard(1, 0), nil), api.ErrDead)
	fails(t, w.Reset(), api.ErrDead)
	fails(t, w.Cut(1), api.ErrDead)
	tells(t, &w, hard(0, 0))
}
