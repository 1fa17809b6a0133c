package agenda_test

import (
	"cmp"
	"math"
	"math/rand"
	"slices"
	"testing"

	"kiosk/agenda"
)

// plain is an agenda by the words of the document: items in a row, each a time and a number, sorted when they are asked.
type plain [][2]int

func (p *plain) at(id int) int {
	return slices.IndexFunc(*p, func(x [2]int) bool { return x[1] == id })
}

func (p *plain) drop(id int) bool {
	k := p.at(id)
	if k >= 0 {
		*p = slices.Delete(*p, k, k+1)
	}
	return k >= 0
}

func (p *plain) put(at, id int) {
	p.drop(id)
	*p = append(*p, [2]int{at, id})
	slices.SortFunc(*p, func(x, y [2]int) int { return cmp.Or(cmp.Compare(x[0], y[0]), cmp.Compare(x[1], y[1])) })
}

func (p *plain) due(now int) []int {
	var l []int
	for len(*p) > 0 && (*p)[0][0] <= now {
		l = append(l, (*p)[0][1])
		*p = (*p)[1:]
	}
	return l
}

// same asks for everything that there is, and for numbers that may not be there.
func same(t *testing.T, a *agenda.Agenda, p *plain, numbers []int) {
	t.Helper()
	has(t, a, len(*p))
	if len(*p) == 0 {
		nextNone(t, a)
	} else {
		next(t, a, (*p)[0][0], (*p)[0][1])
	}
	for _, id := range numbers {
		if k := p.at(id); k < 0 {
			missing(t, a, id)
		} else {
			stands(t, a, id, (*p)[k][0])
		}
	}
}

// few are numbers among which the random calls choose: so few that they often meet.
func few(r *rand.Rand, n int) []int {
	l := []int{math.MaxInt, math.MinInt, 0}
	for range n {
		l = append(l, r.Intn(3*n)-n)
	}
	return l
}

func anyOf(r *rand.Rand, l []int) int { return l[r.Intn(len(l))] }

// T1, T2, T3, P4: any row of calls answers what the words say, and the same when it is played again.
func TestAnyCalls(t *testing.T) {
	for seed := range int64(300) {
		r := rand.New(rand.NewSource(seed))
		size := []int{1, 4, 12, 40}[seed%4]
		times, numbers := few(r, size), few(r, size)
		a, again, p := agenda.New(), agenda.New(), &plain{}
		for range 300 {
			at, id := anyOf(r, times), anyOf(r, numbers)
			switch k := r.Intn(20); {
			case k < 12:
				a.Put(at, id)
				again.Put(at, id)
				p.put(at, id)
			case k < 17:
				want := p.drop(id)
				drops(t, a, id, want)
				drops(t, again, id, want)
			default:
				if r.Intn(3) > 0 { // not so often all
					at = r.Intn(size) - size/2
				}
				want := p.due(at)
				due(t, a, at, want...)
				due(t, again, at, want...)
			}
			same(t, a, p, numbers)
			if t.Failed() {
				t.Fatalf("seed %d", seed)
			}
		}
		same(t, again, p, numbers)
	}
}

// T3: each item that was added and not dropped comes out once, at the first Due that reaches its time, and what stays is later.
func TestOnce(t *testing.T) {
	for seed := range int64(100) {
		r := rand.New(rand.NewSource(seed))
		a := agenda.New()
		open := map[int]int{} // the times of those that are to come, by their numbers
		id := 0
		for now := range 200 {
			for range r.Intn(4) {
				at := now + r.Intn(30) - 3
				a.Put(at, id)
				open[id] = at
				id++
			}
			if gone := r.Intn(id + 1); r.Intn(4) == 0 {
				_, there := open[gone]
				drops(t, a, gone, there)
				delete(open, gone)
			}
			last := math.MinInt
			for _, x := range a.Due(now) {
				at, there := open[x]
				if !there || at > now || at < last {
					t.Fatalf("seed %d: %d at %d", seed, x, now)
				}
				last = at
				delete(open, x)
			}
			for x, at := range open {
				if at <= now {
					t.Fatalf("seed %d: %d, due at %d, stays at %d", seed, x, at, now)
				}
			}
		}
		has(t, a, len(open))
	}
}
