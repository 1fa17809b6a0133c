package snap_test

import (
	"math"
	"reflect"
	"slices"
	"strings"
	"testing"

	"kiosk/api"
	"kiosk/disk"
	"kiosk/snap"
)

func disks(t *testing.T, most int) *disk.Disk {
	t.Helper()
	d, e := disk.New(most)
	if e != api.OK {
		t.Fatalf("New(%d): %v", most, e)
	}
	return d
}

// lays writes files, synced: names and bytes by turns.
func lays(t *testing.T, d *disk.Disk, l ...string) {
	t.Helper()
	for i := 0; i < len(l); i += 2 {
		if e := d.Append(l[i], l[i+1]); e != api.OK {
			t.Fatalf("Append to %s: %v", l[i], e)
		}
		d.Sync(l[i])
	}
}

func saves(t *testing.T, d *disk.Disk, b api.Base) {
	t.Helper()
	if e := snap.Save(d, b); e != api.OK {
		t.Fatalf("Save of %d: %v", b.Index, e)
	}
}

func failsSave(t *testing.T, d *disk.Disk, b api.Base, want api.Errno) {
	t.Helper()
	if e := snap.Save(d, b); e != want {
		t.Errorf("Save of %d: %v, not %v", b.Index, e, want)
	}
}

func loads(t *testing.T, d *disk.Disk, want api.Base) {
	t.Helper()
	if b, ok, e := snap.Load(d); !ok || e != api.OK || !reflect.DeepEqual(b, want) {
		t.Errorf("Load: %d %.20q %v %v, not %d %.20q", b.Index, b.Data, ok, e, want.Index, want.Data)
	}
}

// loadsNone is for a Load that finds nothing, and why.
func loadsNone(t *testing.T, d *disk.Disk, want api.Errno) {
	t.Helper()
	if b, ok, e := snap.Load(d); ok || e != want || !reflect.DeepEqual(b, api.Base{}) {
		t.Errorf("Load: %d %v %v, not %v", b.Index, ok, e, want)
	}
}

func lists(t *testing.T, d *disk.Disk, want ...string) {
	t.Helper()
	if l := d.List(); !slices.Equal(l, want) {
		t.Errorf("files %v, not %v", l, want)
	}
}

func kill(t *testing.T, d *disk.Disk) {
	t.Helper()
	d.Fuse(0)
	if e := d.Append("x", ""); e != api.ErrDead || !d.Dead() {
		t.Fatalf("the disk lives: %v", e)
	}
}

// shown is all that a disk has; of a dead one, as it is after a crash that keeps so many bytes of a tail.
func shown(d *disk.Disk, keep int) string {
	if d.Dead() {
		d.Crash([]int{keep}, []int{1})
	}
	var s strings.Builder
	for _, name := range d.List() {
		x, _ := d.Read(name)
		s.WriteString(name + "=" + x + ";")
	}
	return s.String()
}

// S2, S3: the files that there are afterwards, and what is read.
func TestSave(t *testing.T) {
	d := disks(t, 100000)
	loadsNone(t, d, api.OK)
	for _, c := range []struct {
		b    api.Base
		name string
	}{
		{base(3, "abc"), "p3"},
		{base(7, ""), "p7"},
		{base(12, text(5000)), "p12"},
		{base(9, "less"), "p9"}, // a lesser Index replaces a greater one too
		{base(9, "again"), "p9"},
		{api.Base{Index: most, Term: most, Voters: []int{9}}, "p1099511627776"},
		{api.Base{Index: 1, Voters: []int{1}, Data: "x"}, "p1"},
	} {
		saves(t, d, c.b)
		lists(t, d, c.name)
		loads(t, d, c.b)
		if s, _ := d.Read(c.name); s != strings.Join(spelled(c.b), "") {
			t.Errorf("%s: %.60q", c.name, s)
		}
		d.Crash(nil, nil)
		loads(t, d, c.b)
	}
}

// S2: the greatest snapshot there may be.
func TestSaveLong(t *testing.T) {
	d := disks(t, 10000000)
	b := base(5, text(4000000))
	saves(t, d, b)
	d.Crash(nil, nil)
	loads(t, d, b)
}

// call is one that changes the disk.
type call func(d *disk.Disk) api.Errno

// calls are those of a Save by the words of S2, on a disk that has these files.
func calls(b api.Base, files []string, others ...string) []call {
	var l []call
	if slices.Contains(files, "t") {
		l = append(l, func(d *disk.Disk) api.Errno { return d.Delete("t") })
	}
	for _, f := range spelled(b) {
		l = append(l, func(d *disk.Disk) api.Errno { return d.Append("t", f) })
	}
	name := map[int]string{5: "p5", 12: "p12"}[b.Index]
	l = append(l, func(d *disk.Disk) api.Errno { return d.Sync("t") })
	l = append(l, func(d *disk.Disk) api.Errno { return d.Rename("t", name) })
	for _, o := range others {
		l = append(l, func(d *disk.Disk) api.Errno { return d.Delete(o) })
	}
	return l
}

// S2: each call of the disk, in its order: wherever the power goes, the disk is as the calls ahead of it have left it, whatever is kept.
func TestSaveCalls(t *testing.T) {
	for _, with := range [][]string{
		nil,
		{"t", "junk"},
		{"p5", "five", "w1", "x"},
		{"t", "", "p9", "nine", "p10", "ten", "p100", "hundred", "p5", "five", "p12", "twelve", "p07", "x", "u", "y"},
	} {
		for _, b := range []api.Base{base(5, ""), base(5, text(2500)), base(12, text(1000))} {
			for keep := range 12 {
				saveByCalls(t, b, with, keep*90)
			}
		}
	}
}

func saveByCalls(t *testing.T, b api.Base, with []string, keep int) {
	t.Helper()
	start := disks(t, 100000)
	lays(t, start, with...)
	var others []string
	for _, name := range []string{"p10", "p100", "p12", "p5", "p9"} { // in the order of the bytes
		if slices.Contains(start.List(), name) && name != map[int]string{5: "p5", 12: "p12"}[b.Index] {
			others = append(others, name)
		}
	}
	l := calls(b, start.List(), others...)
	for fuse := 0; fuse <= len(l); fuse++ {
		got, want := disks(t, 100000), disks(t, 100000)
		lays(t, got, with...)
		lays(t, want, with...)
		got.Fuse(fuse)
		e := snap.Save(got, b)
		for _, f := range l[:fuse] {
			f(want)
		}
		if fuse == len(l) {
			if e != api.OK || got.Dead() {
				t.Fatalf("%v: more than %d calls", e, len(l))
			}
			kill(t, got)
		} else if e != api.ErrDead {
			t.Fatalf("%v with the power gone", e)
		}
		kill(t, want)
		if g, w := shown(got, keep), shown(want, keep); g != w {
			t.Fatalf("fuse %d of %d, kept %d: %.200q, not %.200q", fuse, len(l), keep, g, w)
		}
	}
}

// S2, P2: a base that is not valid comes first, and changes nothing.
func TestSaveWrong(t *testing.T) {
	d := disks(t, 100000)
	lays(t, d, "t", "junk", "p3", "three")
	d.Fuse(0)
	for _, b := range wrong() {
		failsSave(t, d, b, api.ErrArg)
	}
	if d.Dead() || shown(d, 0) != "p3=three;t=junk;" {
		t.Error("the disk was written to")
	}
	kill(t, d)
	failsSave(t, d, base(0, "x"), api.ErrArg)
}

// S2, S3: on a dead disk nothing is done.
func TestDead(t *testing.T) {
	for _, with := range [][]string{nil, {"t", "junk"}, {"p3", strings.Join(spelled(base(3, "abc")), "")}} {
		d := disks(t, 100000)
		lays(t, d, with...)
		before := d.List()
		kill(t, d)
		failsSave(t, d, base(3, "x"), api.ErrDead)
		loadsNone(t, d, api.ErrDead)
		lists(t, d, before...)
	}
}

// S2: a disk without room for all frames: the one before stays, and nothing is left of the new one.
func TestSaveFull(t *testing.T) {
	one, two := base(3, "abc"), base(12, text(2500))
	size := len(packs(t, two))
	room := len(packs(t, one)) + 1
	for most := room; most <= room+size; most++ {
		d := disks(t, most)
		lays(t, d, "o", "x")
		saves(t, d, one)
		if most == room+size {
			saves(t, d, two)
			lists(t, d, "o", "p12")
			continue
		}
		if e := snap.Save(d, two); e != api.ErrFull || d.Dead() {
			t.Fatalf("with %d bytes: %v", most, e)
		}
		lists(t, d, "o", "p3")
		loads(t, d, one)
	}
	d := disks(t, 10)
	failsSave(t, d, one, api.ErrFull)
	lists(t, d)
}

// S2: an old t is gone even if the new one has no room; and what it took is free for the new one.
func TestSaveFullOld(t *testing.T) {
	d := disks(t, 40)
	lays(t, d, "t", "junk", "o", text(36))
	failsSave(t, d, base(3, "abc"), api.ErrFull)
	lists(t, d, "o")
	d = disks(t, 40)
	lays(t, d, "t", text(40))
	saves(t, d, base(3, "abc"))
	lists(t, d, "p3")
}

// S2: the power goes at the call that would take away what is left: that is the answer then.
func TestSaveFullDead(t *testing.T) {
	two := base(12, text(2500))
	f := spelled(two)
	for written := 1; written < len(f); written++ { // frames that there is room for
		for _, old := range []int{0, 1} {
			d := disks(t, len(strings.Join(f[:written], ""))+5)
			lays(t, d, "p3", "three")
			if old == 1 {
				lays(t, d, "t", "")
			}
			d.Fuse(old + written)
			failsSave(t, d, two, api.ErrDead)
			lists(t, d, "p3", "t")
			d.Crash([]int{9999}, nil)
			if s, _ := d.Read("t"); s != strings.Join(f[:written], "") {
				t.Errorf("%d bytes", len(s))
			}
			d.Fuse(1 + written) // now there is an old one, whatever there was
			failsSave(t, d, two, api.ErrDead)
		}
	}
	d := disks(t, 10) // no room for the first frame: there is nothing to take away
	d.Fuse(0)
	failsSave(t, d, two, api.ErrFull)
	if d.Dead() {
		t.Error("a call too many")
	}
}

// S2: 40 files leave no room for another one, but the old t makes room.
func TestSaveMany(t *testing.T) {
	d := disks(t, 100000)
	for i := range api.MaxFiles - 1 {
		lays(t, d, "f"+string(rune('a'+i%26))+string(rune('a'+i/26)), "")
	}
	lays(t, d, "t", "junk")
	saves(t, d, base(3, "abc"))
	before := d.List()
	if len(before) != api.MaxFiles {
		t.Fatal(before)
	}
	d.Fuse(0)
	failsSave(t, d, base(3, "def"), api.ErrMany)
	failsSave(t, d, base(4, "def"), api.ErrMany)
	if d.Dead() {
		t.Error("a call too many")
	}
	lists(t, d, before...)
	loads(t, d, base(3, "abc"))
}

// S2: which files a Save takes for snapshots, whatever is in them.
func TestSaveNames(t *testing.T) {
	gone := []string{"p1", "p2", "p10", "p9", "p1099511627777", "p123456789012345678", "p999999999999999999"}
	stay := []string{"p", "pp", "p01", "p007", "p00", "p1a", "pa1", "p1p", "1", "t1", "tt", "s1", "q1", "ap1", "w1", "p1000000000000000000", "p9223372036854775807", "p9223372036854775808", "p99999999999999999999999"}
	d := disks(t, 100000)
	for _, name := range append(slices.Clone(gone), stay...) {
		lays(t, d, name, "x")
	}
	saves(t, d, base(5, "abc"))
	want := append(slices.Clone(stay), "p5")
	slices.Sort(want)
	lists(t, d, want...)
	for _, name := range stay {
		if s, _ := d.Read(name); s != "x" {
			t.Errorf("%s: %q", name, s)
		}
	}
}

// S3: of those that are whole and have their own name, the one with the greatest Index, not with the greatest name.
func TestLoad(t *testing.T) {
	file := func(index int) string { return strings.Join(spelled(base(index, "abc")), "") }
	broken := []byte(file(50))
	broken[len(broken)-1] ^= 1
	d := disks(t, 100000)
	lays(t, d,
		"p60", file(61), "p61", "", "p62", "junk", "p63", file(63)+"z", "p64", file(64)[:20], "p50", string(broken),
		"p070", file(70), "q71", file(71), "p", file(72), "t", file(73), "p1000000000000000000", file(74), "p999999999999999999", file(75), "p0", file(76))
	loadsNone(t, d, api.OK)
	for _, c := range []struct{ index, last int }{{9, 9}, {12, 12}, {11, 12}, {100, 100}, {20, 100}, {most, most}, {65, most}, {1, most}} {
		saved := disks(t, 1000)
		saves(t, saved, base(c.index, "abc"))
		lays(t, d, saved.List()[0], file(c.index))
		before := shown(d, 0)
		d.Fuse(0)
		loads(t, d, base(c.last, "abc"))
		if d.Dead() || shown(d, 0) != before {
			t.Error("Load has changed the disk")
		}
		d.Fuse(-1)
	}
}

// S3: what is read is what is there, synced or not; one that is too great to be valid is none.
func TestLoadOthers(t *testing.T) {
	d := disks(t, 100000)
	d.Append("p7", strings.Join(spelled(base(7, "abc")), ""))
	loads(t, d, base(7, "abc"))
	d.Crash([]int{20}, nil)
	loadsNone(t, d, api.OK)
	lays(t, d, "p1099511627777", strings.Join(spelled(base(most+1, "abc")), ""))
	loadsNone(t, d, api.OK)
	lays(t, d, "p8", strings.Join(spelled(api.Base{Index: 8, Term: math.MaxInt, Voters: []int{1}}), ""))
	loadsNone(t, d, api.OK)
}

// P3: a base that is handed in may change afterwards, and so may one that is answered.
func TestFilesKeep(t *testing.T) {
	d := disks(t, 100000)
	b := base(3, "abc")
	saves(t, d, b)
	b.Voters[0] = 9
	x, _, _ := snap.Load(d)
	x.Voters[1] = 9
	loads(t, d, base(3, "abc"))
}
