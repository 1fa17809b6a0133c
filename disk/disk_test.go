package disk_test

import (
	"math"
	"slices"
	"strconv"
	"strings"
	"testing"

	"kiosk/api"
	"kiosk/disk"
)

func disks(t *testing.T, most int) *disk.Disk {
	t.Helper()
	d, e := disk.New(most)
	if d == nil || e != api.OK {
		t.Fatalf("New(%d): %v", most, e)
	}
	return d
}

// does fails at the first call that was not answered with OK.
func does(t *testing.T, l ...api.Errno) {
	t.Helper()
	for i, e := range l {
		if e != api.OK {
			t.Fatalf("call %d: %v", i, e)
		}
	}
}

func fails(t *testing.T, e, want api.Errno) {
	t.Helper()
	if e != want {
		t.Errorf("%v, not %v", e, want)
	}
}

func reads(t *testing.T, d *disk.Disk, name, want string) {
	t.Helper()
	if s, e := d.Read(name); s != want || e != api.OK {
		t.Errorf("Read(%q): %.40q %v, not %.40q", name, s, e, want)
	}
}

func lists(t *testing.T, d *disk.Disk, want ...string) {
	t.Helper()
	if l := d.List(); !slices.Equal(l, want) {
		t.Errorf("List: %q, not %q", l, want)
	}
}

func sizes(t *testing.T, d *disk.Disk, want int) {
	t.Helper()
	if n := d.Size(); n != want {
		t.Errorf("Size: %d, not %d", n, want)
	}
}

// kill lets the power go in a call that would do nothing else.
func kill(t *testing.T, d *disk.Disk, name string) {
	t.Helper()
	d.Fuse(0)
	fails(t, d.Append(name, ""), api.ErrDead)
	if !d.Dead() {
		t.Error("not dead")
	}
}

// D1: which capacities there are, and that a new disk is empty.
func TestNew(t *testing.T) {
	for _, n := range []int{0, 1, 10000000} {
		d := disks(t, n)
		if d.Dead() {
			t.Errorf("New(%d): dead", n)
		}
		lists(t, d)
		sizes(t, d, 0)
	}
	for _, n := range []int{-1, 10000001, math.MinInt, math.MaxInt} {
		if d, e := disk.New(n); d != nil || e != api.ErrRange {
			t.Errorf("New(%d): %v", n, e)
		}
	}
}

// D1: a name has so many bytes, and each of them is one of 36.
func TestName(t *testing.T) {
	for n := range 60 {
		if ok := disk.Name(strings.Repeat("a", n)); ok != (n >= 1 && n <= 24) {
			t.Errorf("Name of %d bytes: %v", n, ok)
		}
	}
	const letters = "abcdefghijklmnopqrstuvwxyz0123456789"
	for c := range 256 {
		b := string([]byte{byte(c)})
		for _, s := range []string{b, b + "a", "a" + b, "a" + b + "0", strings.Repeat("z", 23) + b} {
			if ok := disk.Name(s); ok != strings.Contains(letters, b) {
				t.Errorf("Name(%q): %v", s, ok)
			}
		}
	}
	for _, s := range []string{"ä", "a b", "a/b", "W1", "\xff", "a\x00"} {
		if disk.Name(s) {
			t.Errorf("Name(%q)", s)
		}
	}
}

// D1: names in the order of their bytes, where that is not the order of numbers nor that of making.
func TestList(t *testing.T) {
	d := disks(t, 100)
	for _, s := range []string{"w2", "b", "w10", "aa", "9", "w1", "a", "0", "w"} {
		does(t, d.Append(s, s))
	}
	lists(t, d, "0", "9", "a", "aa", "b", "w", "w1", "w10", "w2")
	sizes(t, d, 14)
	does(t, d.Delete("w"), d.Rename("0", "c"))
	lists(t, d, "9", "a", "aa", "b", "c", "w1", "w10", "w2")
	sizes(t, d, 13)
}

// D2: which error comes first of those that apply.
func TestAppendErrors(t *testing.T) {
	d := disks(t, 50)
	for i := range 39 {
		does(t, d.Append("f"+strconv.Itoa(i), ""))
	}
	does(t, d.Append("g", "0123456789"))
	big := strings.Repeat("x", 41)
	for _, c := range []struct {
		name, data string
		want       api.Errno
	}{
		{"", "", api.ErrName},
		{"G", big, api.ErrName}, // no name, too many, too much
		{"no name", "", api.ErrName},
		{strings.Repeat("a", 25), "", api.ErrName},
		{"h", big, api.ErrMany},
		{"h", "", api.ErrMany},
		{strings.Repeat("a", 24), "", api.ErrMany},
		{"g", big, api.ErrFull},
		{"f0", big, api.ErrFull},
		{"g", strings.Repeat("x", 100000), api.ErrFull},
	} {
		fails(t, d.Append(c.name, c.data), c.want)
	}
	if len(d.List()) != 40 {
		t.Error(d.List())
	}
	reads(t, d, "g", "0123456789")
	does(t, d.Append("f0", big[:40]), d.Append("f1", "")) // full to the last byte, and nothing more
	sizes(t, d, 50)
	fails(t, d.Append("f1", "x"), api.ErrFull)
	does(t, d.Delete("f2"), d.Append("h", ""))
	fails(t, d.Append("i", ""), api.ErrMany)
}

// D2: a disk that holds nothing has files yet.
func TestNoCapacity(t *testing.T) {
	d := disks(t, 0)
	does(t, d.Append("a", ""), d.Sync("a"), d.Truncate("a", 0))
	fails(t, d.Append("a", "x"), api.ErrFull)
	fails(t, d.Append("b", "x"), api.ErrFull)
	lists(t, d, "a")
	reads(t, d, "a", "")
}

// D1, D2: the greatest disk holds that many bytes.
func TestGreatest(t *testing.T) {
	d := disks(t, 10000000)
	s := strings.Repeat("0123456789", 1000000)
	fails(t, d.Append("a", s+"x"), api.ErrFull)
	does(t, d.Append("a", s))
	fails(t, d.Append("b", "x"), api.ErrFull)
	sizes(t, d, 10000000)
	reads(t, d, "a", s)
}

// D2: the errors of the other calls, with and without a name that may be.
func TestOtherErrors(t *testing.T) {
	d := disks(t, 50)
	does(t, d.Append("a", "123"))
	for _, s := range []string{"b", "", "A", strings.Repeat("a", 25), "a "} {
		fails(t, d.Sync(s), api.ErrNone)
		fails(t, d.Truncate(s, 0), api.ErrNone)
		fails(t, d.Truncate(s, -1), api.ErrNone)
		fails(t, d.Delete(s), api.ErrNone)
		fails(t, d.Rename(s, "c"), api.ErrNone)
		fails(t, d.Rename(s, "C"), api.ErrNone)
		fails(t, d.Rename(s, s), api.ErrNone)
		if x, e := d.Read(s); x != "" || e != api.ErrNone {
			t.Errorf("Read(%q): %q %v", s, x, e)
		}
	}
	for _, n := range []int{-1, 4, math.MinInt, math.MaxInt} {
		fails(t, d.Truncate("a", n), api.ErrRange)
	}
	for _, s := range []string{"", "A", strings.Repeat("a", 25), "a "} {
		fails(t, d.Rename("a", s), api.ErrName)
	}
	lists(t, d, "a")
	reads(t, d, "a", "123")
}

// D2: on a dead disk, ErrDead comes ahead of everything, and nothing is changed.
func TestDeadFirst(t *testing.T) {
	d := disks(t, 5)
	does(t, d.Append("a", "12345"), d.Sync("a"), d.Append("b", ""))
	kill(t, d, "a")
	for _, s := range []string{"a", "b", "c", "", "A"} {
		fails(t, d.Append(s, "123456"), api.ErrDead)
		fails(t, d.Append(s, ""), api.ErrDead)
		fails(t, d.Sync(s), api.ErrDead)
		fails(t, d.Truncate(s, -1), api.ErrDead)
		fails(t, d.Truncate(s, 0), api.ErrDead)
		fails(t, d.Rename(s, "c"), api.ErrDead)
		fails(t, d.Rename(s, "C"), api.ErrDead)
		fails(t, d.Delete(s), api.ErrDead)
		if x, e := d.Read(s); x != "" || e != api.ErrDead {
			t.Errorf("Read(%q): %q %v", s, x, e)
		}
	}
	lists(t, d, "a", "b")
	sizes(t, d, 5)
	d.Fuse(3) // no fuse brings the power back
	d.Fuse(-1)
	if !d.Dead() {
		t.Error("not dead")
	}
	d.Crash(nil, nil)
	lists(t, d, "a", "b")
	reads(t, d, "a", "12345")
}

// D3: what a file consists of, and that the bytes are any bytes.
func TestAppend(t *testing.T) {
	d := disks(t, 100)
	does(t, d.Append("a", ""), d.Append("b", "x\x00"), d.Append("b", ""), d.Append("b", "\xff\x80y"), d.Append("a", "1"))
	reads(t, d, "a", "1")
	reads(t, d, "b", "x\x00\xff\x80y")
	sizes(t, d, 6)
}

// D3: Sync is of one file, and of the bytes that it has then.
func TestSync(t *testing.T) {
	d := disks(t, 100)
	does(t, d.Append("a", "1"), d.Append("b", "2"), d.Sync("a"), d.Append("a", "3"))
	reads(t, d, "a", "13")
	d.Crash(nil, nil)
	reads(t, d, "a", "1")
	reads(t, d, "b", "")
	lists(t, d, "a", "b") // a file stays, even without a byte
}

// D3: Truncate leaves no more bytes synced than there are, and syncs none.
func TestTruncate(t *testing.T) {
	for _, c := range []struct {
		n             int
		now, then, in string // in: with a tail that the crash keeps
	}{
		{6, "123456", "123", "123456xy"},
		{5, "12345", "123", "12345xy"},
		{4, "1234", "123", "1234xy"},
		{3, "123", "123", "123xy"},
		{2, "12", "12", "12xy"},
		{0, "", "", "xy"},
	} {
		for _, more := range []bool{false, true} {
			d := disks(t, 8)
			does(t, d.Append("a", "123"), d.Sync("a"), d.Append("a", "456"), d.Truncate("a", c.n))
			reads(t, d, "a", c.now)
			sizes(t, d, c.n)
			if !more {
				d.Crash(nil, nil)
				reads(t, d, "a", c.then)
				continue
			}
			does(t, d.Append("a", "xy"))
			d.Crash([]int{9}, nil)
			reads(t, d, "a", c.in)
		}
	}
}

// D3: bytes that are truncated make room.
func TestTruncateRoom(t *testing.T) {
	d := disks(t, 4)
	does(t, d.Append("a", "1234"), d.Truncate("a", 1), d.Append("b", "567"))
	fails(t, d.Append("a", "8"), api.ErrFull)
	does(t, d.Delete("b"), d.Append("a", "234"))
	reads(t, d, "a", "1234")
}

// D3: a file goes under its new name with what is synced of it, and one that was there is gone.
func TestRename(t *testing.T) {
	d := disks(t, 10)
	does(t, d.Append("a", "12"), d.Sync("a"), d.Append("a", "34"), d.Append("b", "567"), d.Sync("b"))
	does(t, d.Rename("a", "b"))
	lists(t, d, "b")
	sizes(t, d, 4)
	reads(t, d, "b", "1234")
	fails(t, d.Delete("a"), api.ErrNone)
	does(t, d.Append("a", "new"), d.Rename("b", "c"), d.Append("c", "5"))
	reads(t, d, "a", "new")
	reads(t, d, "c", "12345")
	d.Crash([]int{0, 1}, nil)
	reads(t, d, "a", "")
	reads(t, d, "c", "123")
}

// D3: nothing happens to a file that is renamed to its own name.
func TestRenameSame(t *testing.T) {
	d := disks(t, 10)
	does(t, d.Append("a", "12"), d.Sync("a"), d.Append("a", "34"), d.Rename("a", "a"))
	lists(t, d, "a")
	reads(t, d, "a", "1234")
	d.Crash([]int{1}, nil)
	reads(t, d, "a", "123")
	fails(t, d.Rename("b", "b"), api.ErrNone)
}

// D3: a file that was deleted is another one, when it comes again.
func TestDelete(t *testing.T) {
	d := disks(t, 10)
	does(t, d.Append("a", "123"), d.Sync("a"), d.Append("b", "4"), d.Delete("a"))
	lists(t, d, "b")
	sizes(t, d, 1)
	fails(t, d.Sync("a"), api.ErrNone)
	does(t, d.Append("a", "56"))
	d.Crash(nil, nil)
	reads(t, d, "a", "")
}

// P1: a disk that New has not made holds nothing.
func TestZeroDisk(t *testing.T) {
	var d disk.Disk
	lists(t, &d)
	sizes(t, &d, 0)
	d.Crash([]int{1}, []int{1})
	fails(t, d.Sync("a"), api.ErrNone)
	fails(t, d.Append("a", "1"), api.ErrFull)
	does(t, d.Append("a", ""), d.Rename("a", "b"))
	lists(t, &d, "b")
}

// P3: an answer is the caller's own.
func TestAnswersAreNew(t *testing.T) {
	d := disks(t, 10)
	does(t, d.Append("a", "12"), d.Append("b", "34"))
	l := d.List()
	l[0], l[1] = "z", "y"
	lists(t, d, "a", "b")
	s, _ := d.Read("a")
	does(t, d.Truncate("a", 0), d.Append("a", "xy"))
	if s != "12" {
		t.Errorf("a read text has changed: %q", s)
	}
}
