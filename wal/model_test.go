package wal_test

import (
	"math/rand"
	"slices"
	"strconv"
	"strings"
	"testing"

	"kiosk/api"
	"kiosk/codec"
	"kiosk/disk"
	"kiosk/wal"
)

// plain is a log by the words of the chapter, with the calls of the disk that they name and no others.
type plain struct {
	d *disk.Disk
	facts
}

// plainSegments looks for each name that there may be: the tests need no greater ones.
func plainSegments(d *disk.Disk) []string {
	var l []string
	names := d.List()
	for n := 1; n < 200; n++ {
		if name := "w" + strconv.Itoa(n); slices.Contains(names, name) {
			l = append(l, name)
		}
	}
	return l
}

// plainPayload tells whether s is the payload of a record, by writing down what it would be.
func plainPayload(s string) (l []int, data string, ok bool) {
	rest := s
	for len(l) < 4 && rest != "" {
		n, left, ok := codec.ToInt(rest)
		if !ok {
			return nil, "", false
		}
		l, rest = append(l, n), left
		if l[0] == 1 && len(l) == 3 || l[0] == 3 {
			break
		}
	}
	switch {
	case len(l) == 3 && l[0] == 1 && l[1] >= 0 && l[2] >= 0:
		return l, "", s == codec.Int(l...)
	case len(l) == 4 && l[0] == 2 && l[1] > 0 && l[2] >= 0 && l[3] >= 1 && l[3] <= 3:
		data, _, _ = codec.ToText(rest)
		return l, data, s == codec.Int(l...)+codec.Text(data)
	}
	return l, "", s == codec.Int(3)
}

// plainRead reads the records of a segment, one by one.
func (f facts) plainRead(s string) (g facts, end int, entries []int, e api.Errno) {
	for end < len(s) {
		payload, n, e := codec.Unframe(s[end:])
		if e == api.ErrSum {
			return f, end, entries, e
		}
		l, data, ok := plainPayload(payload)
		if e != api.OK || !ok {
			return f, end, entries, api.ErrForm
		}
		switch l[0] {
		case 1:
			f.hard = hard(l[1], l[2])
		case 2:
			f = f.with(api.Entry{Index: l[1], Term: l[2], Kind: l[3], Data: data})
			entries = append(entries, l[1])
		case 3:
			f.l = nil
		}
		end += n
	}
	return f, end, entries, api.OK
}

// firstError does the calls in turn, up to the first one that fails.
func firstError(calls ...func() api.Errno) api.Errno {
	for _, call := range calls {
		if e := call(); e != api.OK {
			return e
		}
	}
	return api.OK
}

func plainWrite(d *disk.Disk, name, s string) api.Errno {
	return firstError(func() api.Errno { return d.Append(name, s) }, func() api.Errno { return d.Sync(name) })
}

func plainOpen(d *disk.Disk) (*plain, api.Errno) {
	p := &plain{d: d}
	names := plainSegments(d)
	if len(names) == 0 {
		if e := plainWrite(d, "w1", hardRecord(hard(0, 0))); e != api.OK {
			return nil, e
		}
	}
	for i, name := range names {
		s, e := d.Read(name)
		if e != api.OK {
			return nil, e
		}
		end := 0
		p.facts, end, _, e = p.plainRead(s)
		if e != api.OK && i == len(names)-1 {
			e = firstError(func() api.Errno { return d.Truncate(name, end) }, func() api.Errno { return d.Sync(name) })
		}
		if e != api.OK {
			return nil, e
		}
	}
	return p, api.OK
}

func plainFits(s step) bool {
	for _, x := range s.l {
		if x.Index < 1 || x.Term < 0 || x.Kind < 1 || x.Kind > 3 || len(codec.Int(2, x.Index, x.Term, x.Kind)+codec.Text(x.Data)) > 65536 {
			return false
		}
	}
	return s.hard.Term >= 0 && s.hard.Vote >= 0
}

func (p *plain) do(s step) api.Errno {
	if !s.reset && !plainFits(s) {
		return api.ErrArg
	}
	if !s.reset && len(s.l) == 0 && s.hard == p.hard {
		return api.OK
	}
	if p.d.Dead() {
		return api.ErrDead
	}
	names := plainSegments(p.d)
	name := names[len(names)-1]
	size := p.d.Size()
	there, _ := p.d.Read(name)
	if !s.reset && len(there) >= 2000 && len(names) < 20 {
		n, _ := strconv.Atoi(name[1:])
		name, there = "w"+strconv.Itoa(n+1), ""
	}
	var b strings.Builder
	if s.reset && there == "" {
		b.WriteString(hardRecord(p.hard))
	} else if !s.reset && (there == "" || s.hard != p.hard) {
		b.WriteString(hardRecord(s.hard))
	}
	if s.reset {
		b.WriteString(resetRecord())
	}
	for _, x := range s.l {
		b.WriteString(entryRecord(x))
	}
	e := plainWrite(p.d, name, b.String())
	if e == api.OK {
		l := p.after(s)
		p.facts = l[len(l)-1]
	} else if e == api.ErrFull && p.d.Size() != size {
		panic("a call that failed has written")
	}
	return e
}

func (p *plain) cut(index int) api.Errno {
	if p.d.Dead() {
		return api.ErrDead
	}
	for len(plainSegments(p.d)) > 1 {
		name := plainSegments(p.d)[0]
		s, _ := p.d.Read(name)
		_, _, entries, _ := facts{}.plainRead(s)
		if len(entries) > 0 && slices.Max(entries) > index {
			break
		}
		if e := p.d.Delete(name); e != api.OK {
			return e
		}
	}
	return api.OK
}

func sameDisks(t *testing.T, d, p *disk.Disk) {
	t.Helper()
	if d.Dead() != p.Dead() || !slices.Equal(d.List(), p.List()) {
		t.Fatalf("%v %q, not %v %q", d.Dead(), d.List(), p.Dead(), p.List())
	}
	for _, name := range d.List() {
		s, _ := d.Read(name)
		if want, _ := p.Read(name); s != want {
			t.Fatalf("%s: %.200q, not %.200q", name, s, want)
		}
	}
}

// litter does to both disks what no log does: a file more, bytes at the end of a segment, bytes of it damaged.
func litter(r *rand.Rand, l ...*disk.Disk) {
	names := plainSegments(l[0])
	if len(names) == 0 {
		return
	}
	name := names[len(names)-1]
	if r.Intn(8) == 0 {
		name = names[r.Intn(len(names))]
	}
	kind, n, s := r.Intn(4), r.Intn(40), string([]byte{byte(r.Intn(256)), byte(r.Intn(256))})
	for _, d := range l {
		size, _ := d.Read(name)
		switch kind {
		case 0:
			d.Append("x"+strconv.Itoa(n), s)
		case 1:
			d.Append(name, s)
		case 2:
			d.Append(name, frame(codec.Int(n%5, n/4, n%7, 1)+"\x02a"))
		case 3:
			d.Truncate(name, max(0, len(size)-n))
		}
	}
}

func wrongStep(r *rand.Rand, s step) step {
	switch r.Intn(6) {
	case 0:
		s.hard.Term = -1
	case 1:
		s.hard.Vote = -2
	default:
		x := []api.Entry{{Kind: 1}, {Index: 1}, {Index: 1, Kind: 4}, {Index: 1, Term: -1, Kind: 2}, entry(1, 1, strings.Repeat("x", 65530))}[r.Intn(5)]
		s.l = slices.Insert(slices.Clone(s.l), r.Intn(len(s.l)+1), x)
	}
	return s
}

// reopened opens both; where that fails, it goes on with new disks.
func reopened(t *testing.T, p *plain, d *disk.Disk, most int) (*wal.Log, *plain, *disk.Disk) {
	t.Helper()
	w, e := wal.Open(d)
	q, want := plainOpen(p.d)
	if e != want || (w == nil) != (q == nil) {
		t.Fatalf("Open: %v, not %v", e, want)
	}
	sameDisks(t, d, p.d)
	if w != nil {
		return w, q, d
	}
	if d.Dead() {
		d.Crash(nil, nil)
		p.d.Crash(nil, nil)
		return reopened(t, p, d, most)
	}
	return reopened(t, &plain{d: disks(t, most)}, disks(t, most), most)
}

// L1 to L4, P1, P2, P4: any row of calls answers what the words say, and leaves the same bytes on the disk.
func TestAnyCalls(t *testing.T) {
	for seed := range int64(300) {
		r := rand.New(rand.NewSource(seed))
		most := []int{60, 3000, 30000, 1000000}[r.Intn(4)]
		w, p, d := reopened(t, &plain{d: disks(t, most)}, disks(t, most), most)
		for range 150 {
			e, want := api.OK, api.OK
			switch k := r.Intn(40); {
			case k < 2:
				n := r.Intn(5) - 1
				d.Fuse(n)
				p.d.Fuse(n)
			case k < 4 || d.Dead() && k < 20:
				keep, noise := []int{r.Intn(3) * r.Intn(1500)}, []int{r.Intn(256)}
				d.Crash(keep, noise)
				p.d.Crash(keep, noise)
				w, p, d = reopened(t, p, d, most)
			case k == 20:
				litter(r, d, p.d)
			case k == 21:
				w, p, d = reopened(t, p, d, most)
			case k < 24:
				index := r.Intn(40) - 2
				e, want = w.Cut(index), p.cut(index)
			default:
				s := randomStep(r, p.facts)
				if k > 37 && !s.reset {
					s = wrongStep(r, s)
				}
				e, want = s.call(w), p.do(s)
			}
			if e != want {
				t.Fatalf("seed %d: %v, not %v", seed, e, want)
			}
			sameDisks(t, d, p.d)
			tells(t, w, p.hard, p.l...)
			lists(t, w, plainSegments(p.d)...)
		}
	}
}
