package disk_test

import (
	"math"
	"slices"
	"strconv"
	"testing"

	"kiosk/api"
	"kiosk/disk"
)

// D3: so many calls that change the disk pass, and the next one ends it without any other effect.
func TestFuseCounts(t *testing.T) {
	steps := []struct {
		name string
		call func(d *disk.Disk) api.Errno
	}{
		{"Append", func(d *disk.Disk) api.Errno { return d.Append("a", "x") }},
		{"Append nothing", func(d *disk.Disk) api.Errno { return d.Append("a", "") }},
		{"Append anew", func(d *disk.Disk) api.Errno { return d.Append("n", "") }},
		{"Sync", func(d *disk.Disk) api.Errno { return d.Sync("a") }},
		{"Sync again", func(d *disk.Disk) api.Errno { return d.Sync("b") }},
		{"Truncate", func(d *disk.Disk) api.Errno { return d.Truncate("a", 0) }},
		{"Truncate nothing", func(d *disk.Disk) api.Errno { return d.Truncate("a", 2) }},
		{"Rename", func(d *disk.Disk) api.Errno { return d.Rename("a", "b") }},
		{"Rename same", func(d *disk.Disk) api.Errno { return d.Rename("a", "a") }},
		{"Delete", func(d *disk.Disk) api.Errno { return d.Delete("a") }},
	}
	for _, step := range steps {
		for n := range 4 {
			d := disks(t, 10)
			does(t, d.Append("a", "12"), d.Append("b", "34"), d.Sync("b"))
			d.Fuse(n)
			for range n {
				does(t, d.Append("b", ""))
			}
			if e := step.call(d); e != api.ErrDead || !d.Dead() {
				t.Errorf("%s with a fuse of %d: %v", step.name, n, e)
			}
			lists(t, d, "a", "b")
			sizes(t, d, 4)
			d.Crash([]int{1}, nil)
			reads(t, d, "a", "1") // its bytes are there, and still not synced
			reads(t, d, "b", "34")
		}
		d := disks(t, 10)
		does(t, d.Append("a", "12"), d.Append("b", "34"), d.Sync("b"))
		d.Fuse(1)
		if e := step.call(d); e != api.OK || d.Dead() {
			t.Errorf("%s with a fuse of 1: %v", step.name, e)
		}
		fails(t, d.Append("b", ""), api.ErrDead)
	}
}

// D3: calls that fail, and those that change nothing, take nothing off the fuse.
func TestFuseSpared(t *testing.T) {
	d := disks(t, 4)
	for i := range 40 {
		does(t, d.Append("f"+strconv.Itoa(i), ""))
	}
	for _, n := range []int{0, 2} {
		d.Fuse(n)
		for range 5 {
			fails(t, d.Append("A", ""), api.ErrName)
			fails(t, d.Append("g", ""), api.ErrMany)
			fails(t, d.Append("f1", "12345"), api.ErrFull)
			fails(t, d.Sync("g"), api.ErrNone)
			fails(t, d.Truncate("g", 0), api.ErrNone)
			fails(t, d.Truncate("f1", 1), api.ErrRange)
			fails(t, d.Delete("g"), api.ErrNone)
			fails(t, d.Rename("g", "h"), api.ErrNone)
			fails(t, d.Rename("f1", ""), api.ErrName)
			reads(t, d, "f1", "")
			sizes(t, d, 0)
			d.List()
		}
		if d.Dead() {
			t.Fatal("dead")
		}
		for range n {
			does(t, d.Sync("f1"))
		}
		fails(t, d.Sync("f1"), api.ErrDead)
		d.Crash(nil, nil)
	}
}

// D4: a fuse replaces the one that was set, and below 0 there is none.
func TestFuseSet(t *testing.T) {
	d := disks(t, 10)
	d.Fuse(0)
	d.Fuse(2)
	does(t, d.Append("a", ""), d.Append("a", ""))
	fails(t, d.Append("a", ""), api.ErrDead)
	d.Crash(nil, nil)
	for _, n := range []int{-1, -2, math.MinInt} {
		d.Fuse(0)
		d.Fuse(n)
		for range 100 {
			does(t, d.Append("a", ""))
		}
	}
	d.Fuse(math.MaxInt)
	does(t, d.Append("a", ""))
}

// D4: a crash takes the fuse out, whether it has burnt down or not, and brings the power.
func TestCrashFuse(t *testing.T) {
	d := disks(t, 10)
	does(t, d.Append("a", ""))
	for _, n := range []int{0, 1, 5} {
		d.Fuse(n)
		d.Crash(nil, nil)
		for range 10 {
			does(t, d.Sync("a"))
		}
	}
	kill(t, d, "a")
	d.Fuse(0)
	d.Crash(nil, nil)
	if d.Dead() {
		t.Error("dead")
	}
	does(t, d.Sync("a"), d.Sync("a"))
}

// D4: how many bytes of a tail are kept, and what becomes of the last one.
func TestCrashTail(t *testing.T) {
	for _, c := range []struct {
		keep, noise []int
		want        string
	}{
		{nil, nil, "xy"},
		{nil, []int{1}, "xy"},
		{[]int{0}, []int{1}, "xy"}, // the last synced byte is not damaged
		{[]int{-1}, []int{1}, "xy"},
		{[]int{math.MinInt}, nil, "xy"},
		{[]int{1}, nil, "xyz"},
		{[]int{2}, []int{1}, "xyz{"},
		{[]int{3}, nil, "xyzzz"},
		{[]int{3}, []int{0}, "xyzzz"},
		{[]int{4}, []int{0x7f}, "xyzz\x05"},
		{[]int{math.MaxInt}, []int{0xff}, "xyzz\x85"},
		{[]int{1}, []int{256}, "xyz"},
		{[]int{1}, []int{257}, "xy{"},
		{[]int{1}, []int{-1}, "xy\x85"},
		{[]int{1}, []int{-256}, "xyz"},
		{[]int{1}, []int{math.MinInt}, "xyz"},
		{[]int{1}, []int{math.MaxInt}, "xy\x85"},
		{[]int{1, 9}, []int{0, 9}, "xyz"},
	} {
		d := disks(t, 10)
		does(t, d.Append("a", "xy"), d.Sync("a"), d.Append("a", "zzz"))
		d.Crash(c.keep, c.noise)
		reads(t, d, "a", c.want)
		sizes(t, d, len(c.want))
		d.Crash([]int{1}, []int{1}) // all bytes are synced now
		reads(t, d, "a", c.want)
	}
}

// D4: numbers are given to files with a tail alone, in the order of their names.
func TestCrashOrder(t *testing.T) {
	d := disks(t, 100)
	for _, s := range []string{"w2", "w10", "c", "b", "a"} { // not in order
		does(t, d.Append(s, "abc"))
	}
	does(t, d.Sync("b"), d.Append("e", ""), d.Append("d", "x"), d.Truncate("d", 0))
	d.Crash([]int{1, 2, 0, 3}, []int{0, 1, 2, 3, 4})
	reads(t, d, "a", "a")
	reads(t, d, "b", "abc")
	reads(t, d, "c", "ac")
	reads(t, d, "d", "")
	reads(t, d, "e", "")
	reads(t, d, "w10", "")
	reads(t, d, "w2", "ab`")
	lists(t, d, "a", "b", "c", "d", "e", "w10", "w2")
}

// D4: a crash without a dead disk is one too, and what it leaves goes on.
func TestCrashGoesOn(t *testing.T) {
	d := disks(t, 4)
	does(t, d.Append("a", "1234"))
	d.Crash([]int{2}, nil)
	does(t, d.Append("a", "56"))
	fails(t, d.Append("a", "7"), api.ErrFull)
	reads(t, d, "a", "1256")
	d.Crash([]int{1}, []int{1})
	reads(t, d, "a", "124")
}

// D5: what was synced and then truncated, deleted or replaced is gone; all else that was synced is there.
func TestSyncedSurvives(t *testing.T) {
	d := disks(t, 100)
	for _, s := range []string{"a", "b", "c", "d", "e"} {
		does(t, d.Append(s, s+"12"), d.Sync(s), d.Append(s, "tail"))
	}
	does(t, d.Truncate("a", 2), d.Delete("b"), d.Rename("c", "d"))
	kill(t, d, "e")
	for range 3 {
		d.Crash(nil, nil)
		lists(t, d, "a", "d", "e")
		reads(t, d, "a", "a1")
		reads(t, d, "d", "c12")
		reads(t, d, "e", "e12")
	}
}

// P3: what is handed in to a crash is read up to its length, and stays.
func TestCrashArguments(t *testing.T) {
	d := disks(t, 100)
	does(t, d.Append("a", "123"), d.Append("b", "456"))
	keep, noise := []int{2, 3, 9}, []int{1, 1, 9}
	d.Crash(keep[:1], noise[:1])
	reads(t, d, "a", "13")
	reads(t, d, "b", "")
	does(t, d.Append("b", "456"))
	d.Crash([]int{3}, noise[:0])
	reads(t, d, "b", "456")
	if !slices.Equal(keep, []int{2, 3, 9}) || !slices.Equal(noise, []int{1, 1, 9}) {
		t.Error(keep, noise)
	}
}
