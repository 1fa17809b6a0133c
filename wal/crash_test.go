package wal_test

import (
	"math/rand"
	"strings"
	"testing"

	"kiosk/api"
	"kiosk/disk"
	"kiosk/wal"
)

// step is a Save, or a Reset.
type step struct {
	hard  api.Hard
	l     []api.Entry
	reset bool
}

func (s step) call(w *wal.Log) api.Errno {
	if s.reset {
		return w.Reset()
	}
	return w.Save(s.hard, s.l)
}

// facts is a hard state and entries, by the words of the document.
type facts struct {
	hard api.Hard
	l    []api.Entry
}

func (f facts) with(x api.Entry) facts {
	var l []api.Entry
	for _, y := range f.l {
		if y.Index < x.Index {
			l = append(l, y)
		}
	}
	if len(l) == 0 || l[len(l)-1].Index < x.Index-1 || f.l[0].Index > x.Index {
		return facts{f.hard, []api.Entry{x}}
	}
	return facts{f.hard, append(l, x)}
}

// after is what may be told after each number of a step's records, from none on; the last one is the whole step.
func (f facts) after(s step) []facts {
	l := []facts{f}
	if s.reset {
		return append(l, facts{f.hard, nil})
	}
	f.hard = s.hard
	l = append(l, f)
	for _, x := range s.l {
		f = f.with(x)
		l = append(l, f)
	}
	return l
}

func (f facts) in(l []facts) bool {
	for _, g := range l {
		if shown(f.hard, f.l) == shown(g.hard, g.l) {
			return true
		}
	}
	return false
}

func factsOf(w *wal.Log) facts { return facts{w.Hard(), w.Entries()} }

// script writes three segments, with entries that replace others, gaps and a Reset.
func script() []step {
	mid := strings.Repeat("m", 690)
	return []step{
		{hard: hard(1, 2)},
		{hard: hard(1, 2), l: []api.Entry{entry(1, 1, "a"), entry(2, 1, "b"), entry(3, 1, "")}},
		{hard: hard(2, 0), l: []api.Entry{entry(2, 2, mid), entry(3, 2, "d")}},
		{hard: hard(2, 0), l: []api.Entry{entry(4, 2, mid), entry(5, 2, mid)}},
		{hard: hard(2, 0), l: []api.Entry{entry(6, 2, "e"), entry(7, 2, "f")}}, // w2
		{hard: hard(2, 3)},
		{hard: hard(2, 3), l: []api.Entry{entry(20, 2, "g")}},
		{reset: true},
		{hard: hard(3, 3), l: []api.Entry{entry(21, 3, mid), entry(22, 3, mid), entry(23, 3, mid)}},
		{hard: hard(4, 0)}, // w3
		{reset: true},
		{hard: hard(4, 1), l: []api.Entry{entry(9, 4, "h"), entry(8, 4, "i"), entry(9, 4, "j")}},
	}
}

// play runs the script until a call fails; it tells what may be read then: of the calls that were answered with OK, and of each part of the one that was not.
func play(t *testing.T, d *disk.Disk) []facts {
	t.Helper()
	may := []facts{{}}
	w, e := wal.Open(d)
	if e != api.OK {
		return may
	}
	for _, s := range script() {
		now := factsOf(w)
		may = now.after(s)
		if s.call(w) != api.OK {
			if !factsOf(w).in([]facts{now}) {
				t.Fatalf("%s after a call that failed, not %s", told(w), shown(now.hard, now.l))
			}
			return may
		}
		if may = may[len(may)-1:]; !factsOf(w).in(may) {
			t.Fatalf("%s, not %s", told(w), shown(may[0].hard, may[0].l))
		}
	}
	return may
}

// L5: wherever the power goes, and whatever is kept, everything is there that was answered with OK, and of the call in progress a prefix; and the log goes on from there.
func TestCrashAnywhere(t *testing.T) {
	for fuse := 0; ; fuse++ {
		tail := tailAt(t, fuse)
		if tail < 0 { // the script went through
			break
		}
		for keep := 0; keep <= tail; keep++ {
			if keep > 100 && keep < tail-40 && keep%97 > 0 {
				continue
			}
			for _, noise := range []int{0, 1, 0x40, 0x83, 0xff} {
				crashAt(t, fuse, keep, noise)
			}
		}
	}
}

// tailAt is how many bytes are not synced when the power goes; -1 if it does not go.
func tailAt(t *testing.T, fuse int) int {
	kept, lost := disks(t, 20000), disks(t, 20000)
	for _, d := range []*disk.Disk{kept, lost} {
		d.Fuse(fuse)
		play(t, d)
		if !d.Dead() {
			return -1
		}
	}
	kept.Crash([]int{20000}, nil)
	lost.Crash(nil, nil)
	return kept.Size() - lost.Size()
}

func crashAt(t *testing.T, fuse, keep, noise int) {
	t.Helper()
	d := disks(t, 20000)
	d.Fuse(fuse)
	may := play(t, d)
	d.Crash([]int{keep}, []int{noise})
	w := opens(t, d)
	f := factsOf(w)
	if !f.in(may) {
		t.Fatalf("fuse %d, kept %d, noise %d: %.300s", fuse, keep, noise, told(w))
	}
	tells(t, opens(t, d), f.hard, f.l...)
	next := step{hard: hard(9, 9), l: []api.Entry{entry(5, 9, "x"), entry(6, 9, "y")}}
	all := f.after(next)
	want := all[len(all)-1]
	does(t, next.call(w))
	tells(t, w, want.hard, want.l...)
	d.Crash(nil, nil)
	tells(t, opens(t, d), want.hard, want.l...)
}

// L5: with the power gone while the log is opened, again and again, nothing is lost.
func TestCrashInOpen(t *testing.T) {
	one := entry(1, 1, "a")
	for keep := range 40 {
		d := disks(t, 10000)
		w := opens(t, d)
		does(t, w.Save(hard(1, 1), []api.Entry{one}))
		d.Fuse(1)
		fails(t, w.Save(hard(1, 1), []api.Entry{entry(2, 1, strings.Repeat("b", 100))}), api.ErrDead)
		d.Crash([]int{keep}, []int{keep})
		for fuse := range 4 {
			d.Fuse(fuse)
			if w, e := wal.Open(d); e == api.OK {
				tells(t, w, hard(1, 1), one)
			} else if w != nil || e != api.ErrDead {
				t.Errorf("Open: %v", e)
			}
			d.Crash([]int{keep}, []int{1})
		}
		tells(t, opens(t, d), hard(1, 1), one)
	}
}

func randomStep(r *rand.Rand, f facts) step {
	if r.Intn(12) == 0 {
		return step{reset: true}
	}
	s := step{hard: f.hard}
	if r.Intn(3) == 0 {
		s.hard = hard(f.hard.Term+r.Intn(2), r.Intn(4))
	}
	last := 0
	if len(f.l) > 0 {
		last = f.l[len(f.l)-1].Index
	}
	at := max(1, last+1-max(0, r.Intn(8)-4))
	if r.Intn(15) == 0 {
		at = 1 + r.Intn(last+9)
	}
	for i := range r.Intn(5) {
		x := entry(at+i, s.hard.Term, strings.Repeat("d", r.Intn(20)*r.Intn(60)))
		x.Kind = 1 + r.Intn(3)
		s.l = append(s.l, x)
	}
	return s
}

func behind(l []api.Entry, index int) []api.Entry {
	var out []api.Entry
	for _, x := range l {
		if x.Index > index {
			out = append(out, x)
		}
	}
	return out
}

// L5: with crashes in a row of random calls, what is read is what was stored; the entries have no gaps; and after a Cut all those behind its index are there.
func TestCrashRandom(t *testing.T) {
	for seed := range int64(150) {
		r := rand.New(rand.NewSource(seed))
		d := disks(t, 1000000)
		w := opens(t, d)
		var now facts
		cut, written := 0, true // written: there is a record in the last segment; where there is none, L4 lets a Cut take the only hard state
		for range 120 {
			if r.Intn(8) == 0 {
				d.Fuse(r.Intn(4))
			}
			may := []facts{now}
			if k := r.Intn(10); k == 0 && written {
				cut = max(cut, r.Intn(30))
				w.Cut(cut) // no less than at the last Cut: what is gone is gone
			} else {
				s := randomStep(r, now)
				may = now.after(s)
				if s.call(w) == api.OK {
					may, written = may[len(may)-1:], true
				}
			}
			if !d.Dead() {
				now = may[len(may)-1]
				tells(t, w, now.hard, now.l...)
			}
			if !d.Dead() && r.Intn(20) > 0 {
				continue
			}
			d.Crash([]int{r.Intn(2) * r.Intn(2000)}, []int{r.Intn(256)})
			w = opens(t, d)
			found := false
			for _, f := range may {
				found = found || f.hard == w.Hard() && shown(f.hard, behind(f.l, cut)) == shown(f.hard, behind(w.Entries(), cut))
			}
			if !found {
				t.Fatalf("seed %d: %.300s", seed, told(w))
			}
			now, cut = factsOf(w), 0
			for i, x := range now.l {
				if x.Index != now.l[0].Index+i {
					t.Fatalf("seed %d: a gap: %.300s", seed, told(w))
				}
			}
			last, _ := d.Read(w.Segments()[len(w.Segments())-1])
			written = last != ""
		}
	}
}
