package snap

import (
	"cmp"
	"slices"
	"strconv"

	"kiosk/api"
	"kiosk/disk"
)

// draft is the file that a snapshot is written to, until all of it is safe.
const draft = "t"

// maxFileIndex is the greatest Index that a name may have: 18 digits.
const maxFileIndex = 999999999999999999

func fileName(index int) string { return "p" + strconv.Itoa(index) }

// fileIndex is the Index in the name of a file of a snapshot, or 0 where the name is not that of one.
func fileIndex(name string) int {
	if name == "" {
		return 0
	}
	n, err := strconv.Atoi(name[1:])
	if err != nil || n < 1 || n > maxFileIndex || name != fileName(n) {
		return 0
	}
	return n
}

func notSnapshot(name string) bool { return fileIndex(name) == 0 }

// snapshots are the names of the files of snapshots, in the order of the names.
func snapshots(d *disk.Disk) []string { return slices.DeleteFunc(d.List(), notSnapshot) }

// Save keeps a snapshot, and no other one.
func Save(d *disk.Disk, b api.Base) api.Errno {
	if !Right(b) {
		return api.ErrArg
	}
	e := replace(d, b)
	if e == api.OK || e == api.ErrDead {
		return e
	}
	if drop(d, draft) == api.ErrDead {
		return api.ErrDead
	}
	return e
}

// replace gives the snapshot its name only when it is safe, and deletes the others only when it has its name: at each step one of them is there as a whole.
func replace(d *disk.Disk, b api.Base) api.Errno {
	if e := drop(d, draft); e != api.OK {
		return e
	}
	for f := range frames(b) {
		if e := d.Append(draft, f); e != api.OK {
			return e
		}
	}
	if e := d.Sync(draft); e != api.OK {
		return e
	}
	name := fileName(b.Index)
	if e := d.Rename(draft, name); e != api.OK {
		return e
	}
	return dropOthers(d, name)
}

func dropOthers(d *disk.Disk, kept string) api.Errno {
	for _, name := range snapshots(d) {
		if name == kept {
			continue
		}
		if e := d.Delete(name); e != api.OK {
			return e
		}
	}
	return api.OK
}

// drop deletes a file, if there is one.
func drop(d *disk.Disk, name string) api.Errno {
	if e := d.Delete(name); e != api.ErrNone {
		return e
	}
	return api.OK
}

func byIndexDown(a, b string) int { return cmp.Compare(fileIndex(b), fileIndex(a)) }

// Load reads the last snapshot that is there as a whole; false if there is none.
func Load(d *disk.Disk) (api.Base, bool, api.Errno) {
	if d.Dead() {
		return api.Base{}, false, api.ErrDead
	}
	names := snapshots(d)
	slices.SortFunc(names, byIndexDown)
	for _, name := range names {
		if b, ok := read(d, name); ok {
			return b, true, api.OK
		}
	}
	return api.Base{}, false, api.OK
}

// read is the snapshot in a file; false if it is damaged, or belongs to another name.
func read(d *disk.Disk, name string) (api.Base, bool) {
	s, _ := d.Read(name)
	b, e := Unpack(s)
	if e != api.OK || fileName(b.Index) != name {
		return api.Base{}, false
	}
	return b, true
}
