package wal_test

import (
	"math"
	"strings"
	"testing"

	"kiosk/api"
)

// fourSegments: w1 has entries 1 to 3, w2 has 4 and 5, w3 has 6, w4 has 7.
func fourSegments() []string {
	h := hardRecord(hard(2, 1))
	x := func(index int) string { return entryRecord(entry(index, 2, "d")) }
	return []string{"w1", h + x(1) + x(2) + x(3), "w2", h + x(4) + x(5), "w3", h + x(6), "w4", h + x(7)}
}

// L4: which segments go, and which entries are there afterwards.
func TestCut(t *testing.T) {
	all := []string{"w1", "w2", "w3", "w4"}
	for index, gone := range map[int]int{math.MinInt: 0, -1: 0, 0: 0, 1: 0, 2: 0, 3: 1, 4: 1, 5: 2, 6: 3, 7: 3, 8: 3, math.MaxInt: 3} {
		d := lays(t, 10000, fourSegments()...)
		w := opens(t, d)
		d.Fuse(gone)
		does(t, w.Cut(index))
		if d.Dead() {
			t.Errorf("Cut(%d): more than %d calls of the disk", index, gone)
		}
		lists(t, w, all[gone:]...)
		if l := w.Entries(); len(l) != 7 || w.Hard() != hard(2, 1) {
			t.Errorf("Cut(%d): %s", index, told(w)) // they stay until the next Open
		}
		first := []int{1, 4, 6, 7}[gone]
		var left []api.Entry
		for i := first; i <= 7; i++ {
			left = append(left, entry(i, 2, "d"))
		}
		tells(t, opens(t, d), hard(2, 1), left...)
	}
}

// L4: a segment that must stay keeps all those behind it.
func TestCutStops(t *testing.T) {
	x := func(index int) string { return entryRecord(entry(index, 2, "d")) }
	d := lays(t, 10000, "w1", x(1), "w2", x(9), "w3", x(2), "w4", x(3))
	w := opens(t, d)
	does(t, w.Cut(8))
	lists(t, w, "w2", "w3", "w4")
	does(t, w.Cut(9))
	lists(t, w, "w4")
}

// L4: it is the entries in a segment that count, those too that are not in force any more; and one without entries goes, whatever the index.
func TestCutCounts(t *testing.T) {
	h, x := hardRecord(hard(2, 1)), func(index int) string { return entryRecord(entry(index, 2, "d")) }
	for _, c := range []struct {
		first string
		least int // the least index with which it goes
	}{
		{x(5) + resetRecord(), 5},
		{x(5) + x(1), 5},
		{x(1) + x(5), 5},
		{x(4) + x(5) + x(4), 5},
		{x(math.MaxInt) + x(1), math.MaxInt},
		{h, math.MinInt},
		{h + resetRecord(), math.MinInt},
		{"", math.MinInt},
		{strings.Repeat(h, 300), math.MinInt},
	} {
		if c.least > math.MinInt {
			w := opens(t, lays(t, 10000, "w1", c.first, "w2", h))
			does(t, w.Cut(c.least-1))
			lists(t, w, "w1", "w2")
		}
		w := opens(t, lays(t, 10000, "w1", c.first, "w2", h))
		does(t, w.Cut(c.least))
		lists(t, w, "w2")
	}
}

// L4: the last segment stays, whatever is in it.
func TestCutLast(t *testing.T) {
	d := disks(t, 10000)
	w := opens(t, d)
	d.Fuse(0)
	does(t, w.Cut(0), w.Cut(math.MaxInt))
	if d.Dead() {
		t.Error("the disk was written to")
	}
	lists(t, w, "w1")
	d = lays(t, 10000, "w1", entryRecord(entry(1, 1, "a")), "w2", "")
	w = opens(t, d)
	does(t, w.Cut(1))
	lists(t, w, "w2")
}

// L4: the power may go at each segment; those that are deleted by then are gone.
func TestCutErrors(t *testing.T) {
	for fuse := range 3 {
		d := lays(t, 10000, fourSegments()...)
		w := opens(t, d)
		d.Fuse(fuse)
		fails(t, w.Cut(100), api.ErrDead)
		lists(t, w, []string{"w1", "w2", "w3", "w4"}[fuse:]...)
		if len(w.Entries()) != 7 {
			t.Error(told(w))
		}
		fails(t, w.Cut(100), api.ErrDead)
		d.Crash(nil, nil)
		does(t, opens(t, d).Cut(100))
		tells(t, opens(t, d), hard(2, 1), entry(7, 2, "d"))
	}
}

// L4: on a dead disk that is the answer, even where nothing would be deleted.
func TestCutDead(t *testing.T) {
	d := disks(t, 10000)
	w := opens(t, d)
	kill(t, d)
	fails(t, w.Cut(0), api.ErrDead)
	d = lays(t, 10000, fourSegments()...)
	w = opens(t, d)
	kill(t, d)
	fails(t, w.Cut(-5), api.ErrDead)
}

// L3, L5: with an empty segment at the end, what is saved next tells the hard state, and the others can go.
func TestCutBehindEmpty(t *testing.T) {
	start, one := filler(t, hard(5, 1), 2000)
	d := lays(t, 10000, "w1", start)
	w := opens(t, d)
	d.Fuse(1)
	fails(t, w.Save(hard(5, 1), []api.Entry{entry(2, 5, "x")}), api.ErrDead)
	d.Crash([]int{5}, nil)
	w = opens(t, d)
	lists(t, w, "w1", "w2")
	reads(t, d, "w2", "")
	tells(t, w, hard(5, 1), one)
	does(t, w.Save(hard(5, 1), []api.Entry{entry(2, 5, "y")}), w.Cut(1))
	tells(t, opens(t, d), hard(5, 1), entry(2, 5, "y"))
}
