package agenda_test

import (
	"math"
	"slices"
	"testing"

	"kiosk/agenda"
)

// puts puts items in: a time and a number by turns.
func puts(a *agenda.Agenda, l ...int) {
	for i := 0; i < len(l); i += 2 {
		a.Put(l[i], l[i+1])
	}
}

// filled is a new agenda with these items.
func filled(l ...int) *agenda.Agenda {
	a := agenda.New()
	puts(a, l...)
	return a
}

func due(t *testing.T, a *agenda.Agenda, now int, want ...int) {
	t.Helper()
	if l := a.Due(now); !slices.Equal(l, want) {
		t.Errorf("Due(%d): %v, not %v", now, l, want)
	}
}

func next(t *testing.T, a *agenda.Agenda, at, id int) {
	t.Helper()
	if x, n, ok := a.Next(); x != at || n != id || !ok {
		t.Errorf("Next: %d %d %v, not %d %d", x, n, ok, at, id)
	}
}

func nextNone(t *testing.T, a *agenda.Agenda) {
	t.Helper()
	if x, n, ok := a.Next(); x != 0 || n != 0 || ok {
		t.Errorf("Next: %d %d %v, and there is none", x, n, ok)
	}
}

func stands(t *testing.T, a *agenda.Agenda, id, at int) {
	t.Helper()
	if x, ok := a.At(id); x != at || !ok {
		t.Errorf("At(%d): %d %v, not %d", id, x, ok, at)
	}
}

func missing(t *testing.T, a *agenda.Agenda, id int) {
	t.Helper()
	if x, ok := a.At(id); x != 0 || ok {
		t.Errorf("At(%d): %d %v, and it isn't there", id, x, ok)
	}
}

func drops(t *testing.T, a *agenda.Agenda, id int, want bool) {
	t.Helper()
	if ok := a.Drop(id); ok != want {
		t.Errorf("Drop(%d): %v", id, ok)
	}
}

func has(t *testing.T, a *agenda.Agenda, want int) {
	t.Helper()
	if n := a.Len(); n != want {
		t.Errorf("Len: %d, not %d", n, want)
	}
}

// The examples of the chapter.
func TestExamples(t *testing.T) {
	a := filled(5, 1, 3, 2, 5, 0)
	next(t, a, 3, 2)
	due(t, a, 4, 2)
	has(t, a, 2)
	due(t, a, 9, 0, 1)
	a = filled(7, 1, 1, 1)
	stands(t, a, 1, 1)
	drops(t, a, 1, true)
	drops(t, a, 1, false)
}

// T1, T2: what an agenda without items answers, whether New made it or not, and whether it ever had one.
func TestEmpty(t *testing.T) {
	dropped, done := filled(4, 4), filled(4, 4)
	drops(t, dropped, 4, true)
	due(t, done, 4, 4)
	for _, a := range []*agenda.Agenda{agenda.New(), {}, dropped, done} {
		has(t, a, 0)
		nextNone(t, a)
		due(t, a, math.MaxInt)
		due(t, a, math.MinInt)
		for _, id := range []int{0, 4, -1, math.MaxInt, math.MinInt} {
			missing(t, a, id)
			drops(t, a, id, false)
		}
		has(t, a, 0)
		puts(a, 2, 5, 1, 4)
		has(t, a, 2)
		due(t, a, 2, 4, 5)
	}
}

// T1: an item that is there is not there twice; it has the time that it was given last.
func TestPutAgain(t *testing.T) {
	for _, c := range []struct {
		at   int
		want []int
	}{
		{5, []int{2, 1, 3}}, // as before
		{0, []int{1, 2, 3}}, // earlier
		{9, []int{2, 3, 1}}, // later
		{3, []int{1, 2, 3}}, // with another one, ahead of it by its number
		{8, []int{2, 1, 3}},
		{math.MinInt, []int{1, 2, 3}},
		{math.MaxInt, []int{2, 3, 1}},
	} {
		a := filled(5, 1, 3, 2, 8, 3, c.at, 1)
		has(t, a, 3)
		stands(t, a, 1, c.at)
		stands(t, a, 2, 3)
		stands(t, a, 3, 8)
		due(t, a, math.MaxInt, c.want...)
		has(t, a, 0)
		missing(t, a, 1)
	}
}

// T1: an old time brings nothing back, and a new one is held to.
func TestPutAgainDue(t *testing.T) {
	a := filled(1, 7, 9, 7)
	due(t, a, 8)
	next(t, a, 9, 7)
	due(t, a, 9, 7)
	a = filled(9, 7, 1, 7)
	due(t, a, 1, 7)
	due(t, a, 9)
	a = filled(9, 7, 1, 7)
	drops(t, a, 7, true)
	due(t, a, 9)
}

// T1: Drop takes out the one item, wherever it stands; it may be put in again.
func TestDrop(t *testing.T) {
	all := []int{2, 4, 0, 3, 1, 6, 5}
	for k, id := range all {
		a := agenda.New()
		for at, other := range all {
			a.Put(at, other)
		}
		drops(t, a, 7, false)
		drops(t, a, -1, false)
		has(t, a, 7)
		drops(t, a, id, true)
		drops(t, a, id, false)
		has(t, a, 6)
		missing(t, a, id)
		for at, other := range all {
			if other != id {
				stands(t, a, other, at)
			}
		}
		rest := slices.Delete(slices.Clone(all), k, k+1)
		puts(a, 100, id)
		stands(t, a, id, 100)
		due(t, a, 99, rest...)
		due(t, a, 100, id)
	}
}

// T1: time 0 and number 0 are as any other.
func TestZero(t *testing.T) {
	a := filled(0, 0)
	stands(t, a, 0, 0)
	next(t, a, 0, 0)
	has(t, a, 1)
	due(t, a, -1)
	due(t, a, 0, 0)
	missing(t, a, 0)
	nextNone(t, a)
	a = filled(0, 3)
	stands(t, a, 3, 0)
	drops(t, a, 3, true)
	drops(t, a, 3, false)
}

// T2: times first, then numbers, as Next tells them one by one and Due at once.
func TestOrder(t *testing.T) {
	sorted := []int{-5, 3, -5, 8, -1, 9, 0, -2, 0, 0, 0, 1, 1, -9, 2, 7, 2, 70}
	mixed := []int{0, 1, 2, 70, -5, 8, 0, -2, 1, -9, -1, 9, 2, 7, 0, 0, -5, 3}
	a, b := filled(mixed...), filled(mixed...)
	var numbers []int
	for i := 0; i < len(sorted); i += 2 {
		next(t, a, sorted[i], sorted[i+1])
		drops(t, a, sorted[i+1], true)
		numbers = append(numbers, sorted[i+1])
	}
	nextNone(t, a)
	due(t, b, 2, numbers...)
}

// T2: the greatest and the least times and numbers are held against each other without wrapping round.
func TestOrderFar(t *testing.T) {
	const most, least = math.MaxInt, math.MinInt
	due(t, filled(most, 1, least, 2, 0, 3, most-1, 4, least+1, 5), most, 2, 5, 3, 4, 1)
	due(t, filled(4, most, 4, least, 4, 0, 4, -1, 4, 1, 4, most-1), 4, least, -1, 0, 1, most-1, most)
	a := filled(least, 1, most, 2)
	due(t, a, least, 1)
	due(t, a, most-1)
	due(t, a, most, 2)
}

// T2, T3: what is due now and what was is taken out; what is due a tick later stays.
func TestDueEdges(t *testing.T) {
	a := filled(4, 40, 5, 50, 6, 60, 5, 51, 4, 41)
	due(t, a, 3)
	has(t, a, 5)
	due(t, a, 4, 40, 41)
	due(t, a, 4)
	has(t, a, 3)
	next(t, a, 5, 50)
	stands(t, a, 60, 6)
	missing(t, a, 40)
	due(t, a, 5, 50, 51)
	due(t, a, 5)
	due(t, a, 3) // a now that goes back finds nothing
	next(t, a, 6, 60)
	puts(a, 2, 40) // and what is put in behind its time is due at once
	due(t, a, 5, 40)
	due(t, a, 6, 60)
	nextNone(t, a)
}

// T2: Next, At and Len take nothing out.
func TestAskTwice(t *testing.T) {
	a := filled(2, 1, 1, 2)
	for range 3 {
		next(t, a, 1, 2)
		stands(t, a, 1, 2)
		has(t, a, 2)
	}
	due(t, a, 2, 2, 1)
}

// P3, P4: a list that was answered is the caller's, and one agenda knows nothing of another.
func TestApart(t *testing.T) {
	a, b := agenda.New(), agenda.New()
	puts(a, 1, 1, 2, 2, 3, 3)
	has(t, b, 0)
	nextNone(t, b)
	missing(t, b, 1)
	puts(b, 7, 1)
	first := a.Due(2)
	first = append(first, 9)
	first[0], first[1] = 8, 8
	stands(t, a, 3, 3)
	puts(a, 4, 4)
	second := a.Due(9)
	if !slices.Equal(first, []int{8, 8, 9}) || !slices.Equal(second, []int{3, 4}) {
		t.Error(first, second)
	}
	stands(t, b, 1, 7)
	has(t, b, 1)
}

// T2, T3, P1: many items come in order, each once, and none has to be searched for.
func TestMany(t *testing.T) {
	const n = 200000
	a := agenda.New()
	for i := range n {
		a.Put(i, i) // in order, then moved about
	}
	for i := range n {
		a.Put(i*7919%n/3, i)
	}
	for i := 0; i < n; i += 5 {
		drops(t, a, n-1-i, true)
	}
	has(t, a, n/5*4)
	seen, last := map[int]bool{}, [2]int{-1, -1}
	for now := 0; a.Len() > 0; now += 1000 {
		for _, id := range a.Due(now) {
			x := [2]int{id * 7919 % n / 3, id}
			if seen[id] || (n-1-id)%5 == 0 || x[0] > now || slices.Compare(last[:], x[:]) >= 0 {
				t.Fatalf("Due(%d): %d behind %v", now, id, last)
			}
			seen[id], last = true, x
		}
	}
	if len(seen) != n/5*4 {
		t.Errorf("%d items, not %d", len(seen), n/5*4)
	}
}
