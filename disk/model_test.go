package disk_test

import (
	"math/rand"
	"slices"
	"sort"
	"strings"
	"testing"

	"kiosk/api"
	"kiosk/disk"
)

// plain is a disk by the words of the document: files in a row, and every byte with whether it is synced.
type plain struct {
	most  int
	files []plainFile
	fuse  int
	dead  bool
}

type plainFile struct {
	name   string
	data   string
	synced []bool
}

func (p *plain) at(name string) int {
	return slices.IndexFunc(p.files, func(f plainFile) bool { return f.name == name })
}

func (p *plain) size() int {
	n := 0
	for _, f := range p.files {
		n += len(f.data)
	}
	return n
}

func plainName(s string) bool {
	return s != "" && len(s) <= 24 && strings.Trim(s, "abcdefghijklmnopqrstuvwxyz0123456789") == ""
}

// asked is one call of the random ones.
type asked struct {
	kind     int
	name, to string
	data     string
	n        int
}

// wrong is the first error of D2.
func (p *plain) wrong(c asked) api.Errno {
	k := p.at(c.name)
	switch {
	case p.dead:
		return api.ErrDead
	case c.kind == 0 && !plainName(c.name):
		return api.ErrName
	case c.kind == 0 && k < 0 && len(p.files) == 40:
		return api.ErrMany
	case c.kind == 0 && p.size()+len(c.data) > p.most:
		return api.ErrFull
	case c.kind != 0 && k < 0:
		return api.ErrNone
	case c.kind == 2 && (c.n < 0 || c.n > len(p.files[k].data)):
		return api.ErrRange
	case c.kind == 3 && !plainName(c.to):
		return api.ErrName
	}
	return api.OK
}

func (p *plain) do(c asked) api.Errno {
	if e := p.wrong(c); e != api.OK {
		return e
	}
	if p.fuse == 0 {
		p.dead = true
		return api.ErrDead
	}
	p.fuse--
	k := p.at(c.name)
	if k < 0 {
		p.files = append(p.files, plainFile{name: c.name})
		k = len(p.files) - 1
	}
	f := &p.files[k]
	switch c.kind {
	case 0:
		f.data += c.data
		f.synced = append(f.synced, make([]bool, len(c.data))...)
	case 1:
		for i := range f.synced {
			f.synced[i] = true
		}
	case 2:
		f.data, f.synced = f.data[:c.n], f.synced[:c.n:c.n]
	case 3:
		f.name = ""
		p.files = slices.DeleteFunc(p.files, func(g plainFile) bool { return g.name == c.to })
		p.files[p.at("")].name = c.to
	case 4:
		p.files = slices.Delete(p.files, k, k+1)
	}
	return api.OK
}

func (p *plain) crash(keep, noise []int) {
	sort.Slice(p.files, func(i, j int) bool { return p.files[i].name < p.files[j].name })
	for i := range p.files {
		f := &p.files[i]
		first := slices.Index(f.synced, false)
		if first < 0 {
			continue
		}
		k, x := 0, 0
		if len(keep) > 0 {
			k, keep = keep[0], keep[1:]
		}
		if len(noise) > 0 {
			x, noise = noise[0], noise[1:]
		}
		end := first + max(0, min(k, len(f.data)-first))
		b := []byte(f.data[:end])
		if end > first {
			b[end-1] ^= byte((x%256 + 256) % 256)
		}
		f.data, f.synced = string(b), f.synced[:end]
		for j := range f.synced {
			f.synced[j] = true
		}
	}
	p.fuse, p.dead = -1, false
}

func (p *plain) names() []string {
	l := []string{}
	for _, f := range p.files {
		l = append(l, f.name)
	}
	sort.Strings(l)
	return l
}

func call(d *disk.Disk, c asked) api.Errno {
	switch c.kind {
	case 0:
		return d.Append(c.name, c.data)
	case 1:
		return d.Sync(c.name)
	case 2:
		return d.Truncate(c.name, c.n)
	case 3:
		return d.Rename(c.name, c.to)
	}
	return d.Delete(c.name)
}

func same(t *testing.T, d *disk.Disk, p *plain) {
	t.Helper()
	if d.Dead() != p.dead || d.Size() != p.size() || d.Size() > p.most || !slices.Equal(d.List(), p.names()) {
		t.Fatalf("%v %d %q, not %v %d %q", d.Dead(), d.Size(), d.List(), p.dead, p.size(), p.names())
	}
	for _, f := range p.files {
		s, e := d.Read(f.name)
		if p.dead && (s != "" || e != api.ErrDead) || !p.dead && (s != f.data || e != api.OK) {
			t.Fatalf("Read(%q): %q %v, not %q", f.name, s, e, f.data)
		}
	}
}

func randomName(r *rand.Rand, many bool) string {
	if r.Intn(30) == 0 {
		return []string{"", "A", "a-b", strings.Repeat("x", 25), "\x80"}[r.Intn(5)]
	}
	s := string([]byte{"abw19"[r.Intn(5)]})
	if many {
		s += string([]byte{"0123456789abcz"[r.Intn(14)]})
	}
	return s
}

func randomNumbers(r *rand.Rand, most int) []int {
	l := make([]int, r.Intn(5))
	for i := range l {
		l[i] = r.Intn(most+6) - 3
	}
	return l
}

// D1 to D5, P1, P2, P4: any row of calls answers what the words say, and the same when it is played again.
func TestAnyCalls(t *testing.T) {
	for seed := range int64(400) {
		r := rand.New(rand.NewSource(seed))
		many := seed%2 == 0
		p := &plain{most: []int{0, 7, 60, 1000}[r.Intn(4)], fuse: -1}
		d, again := disks(t, p.most), disks(t, p.most)
		for range 400 {
			switch k := r.Intn(40); k {
			case 0:
				keep, noise := randomNumbers(r, 8), randomNumbers(r, 600)
				d.Crash(keep, noise)
				again.Crash(keep, noise)
				p.crash(keep, noise)
			case 1:
				p.fuse = max(-1, r.Intn(25)-3)
				d.Fuse(p.fuse)
				again.Fuse(p.fuse)
			default:
				c := asked{kind: max(0, k%9-4), name: randomName(r, many), to: randomName(r, many), data: strings.Repeat("pq\xff\x00", 3)[:r.Intn(9)], n: r.Intn(12) - 1}
				e, e2, want := call(d, c), call(again, c), p.do(c)
				if e != want || e2 != want {
					t.Fatalf("seed %d: %v: %v %v, not %v", seed, c, e, e2, want)
				}
			}
			same(t, d, p)
		}
		same(t, again, p)
	}
}
