package snap_test

import (
	"math/rand"
	"reflect"
	"testing"

	"kiosk/api"
	"kiosk/disk"
	"kiosk/snap"
)

// found is what Load answers: a zero base where there is none.
func found(t *testing.T, d *disk.Disk) api.Base {
	t.Helper()
	b, ok, e := snap.Load(d)
	if e != api.OK || ok == reflect.DeepEqual(b, api.Base{}) {
		t.Fatalf("Load: %v %v", ok, e)
	}
	return b
}

// S4: wherever the power goes in a Save, and whatever is kept, the one before is there or the new one: the new one if the Save was answered with OK.
func TestCrashAnywhere(t *testing.T) {
	one := base(12, text(1200))
	for _, two := range []api.Base{base(13, text(2100)), base(3, "abc"), base(12, text(1300)), base(100, "")} {
		for fuse := 0; ; fuse++ {
			died := false
			for keep := 0; keep < 2200; keep += 1 + keep/40*7 {
				for _, noise := range []int{0, 1, 0x80} {
					d := disks(t, 10000)
					saves(t, d, one)
					d.Fuse(fuse)
					e := snap.Save(d, two)
					died = d.Dead()
					d.Crash([]int{keep}, []int{noise})
					b := found(t, d)
					if !reflect.DeepEqual(b, two) && (e == api.OK || !reflect.DeepEqual(b, one)) {
						t.Fatalf("fuse %d, kept %d: %v, and %d is read", fuse, keep, e, b.Index)
					}
					saves(t, d, base(14, "next"))
					lists(t, d, "p14")
					loads(t, d, base(14, "next"))
				}
			}
			if !died { // the Save went through
				break
			}
		}
	}
}

// S4: with many Saves and crashes, and now and then no room, what is read is one that may be.
func TestCrashRandom(t *testing.T) {
	for seed := range int64(300) {
		r := rand.New(rand.NewSource(seed))
		d := disks(t, 4000)
		may := []api.Base{{}} // the last one that was answered with OK, and those in progress since
		for range 60 {
			if r.Intn(3) == 0 {
				d.Fuse(r.Intn(10))
			}
			b := base(1+r.Intn(30), text(r.Intn(4)*r.Intn(1000)))
			switch e := snap.Save(d, b); e {
			case api.OK:
				may = []api.Base{b}
			case api.ErrDead:
				may = append(may, b)
			case api.ErrFull:
			default:
				t.Fatalf("seed %d: %v", seed, e)
			}
			if d.Dead() || r.Intn(5) == 0 {
				d.Crash([]int{r.Intn(2000)}, []int{r.Intn(256)})
			}
			x, ok := found(t, d), false
			for _, y := range may {
				ok = ok || reflect.DeepEqual(x, y)
			}
			if !ok {
				t.Fatalf("seed %d: %d is read", seed, x.Index)
			}
		}
	}
}
