package disk

// file is bytes, of which the first ones survive a crash.
type file struct {
	data   []byte
	synced int
}

func (f *file) hasTail() bool { return f.synced < len(f.data) }

// crash leaves a number of bytes of the tail; only the last of them may have been damaged, never a synced one.
func (f *file) crash(keep, noise int) {
	kept := min(max(keep, 0), len(f.data)-f.synced)
	end := f.synced + kept
	if kept > 0 {
		f.data[end-1] ^= byte(noise)
	}
	f.data = f.data[:end]
	f.synced = end
}

// at is the k-th number of l, or 0 behind its end.
func at(l []int, k int) int {
	if k < len(l) {
		return l[k]
	}
	return 0
}

// Fuse lets the power go at the call behind n more that change the disk; below 0, it takes the fuse out.
func (d *Disk) Fuse(n int) { d.fused, d.left = n >= 0, n }

// Crash lets the power go, and come again: keep and noise tell of the k-th file that has a tail.
func (d *Disk) Crash(keep, noise []int) {
	k := 0
	for _, name := range d.List() {
		if f := d.files[name]; f.hasTail() {
			f.crash(at(keep, k), at(noise, k))
			k++
		}
	}
	d.fused, d.left, d.dead = false, 0, false
}
