package conf_test

import (
	"math"
	"math/bits"
	"math/rand"
	"slices"
	"testing"

	"kiosk/conf"
)

// most is C3 word by word.
func most(l, yes []int) bool {
	n := 0
	for _, x := range l {
		if slices.Contains(yes, x) {
			n++
		}
	}
	return n > len(l)-n
}

// holdsAgreed asks for the greatest number that more than half reach, of all that there are.
func holdsAgreed(t *testing.T, match []int) {
	t.Helper()
	want, found := 0, false
	for _, m := range match {
		n := 0
		for _, x := range match {
			if x >= m {
				n++
			}
		}
		if n > len(match)-n && (!found || m > want) {
			want, found = m, true
		}
	}
	if got := conf.Agreed(match); got != want {
		t.Fatalf("Agreed(%v): %d, not %d", match, got, want)
	}
}

// C3: half is not enough, what is not among the numbers doesn't count, and what is there twice counts once.
func TestMost(t *testing.T) {
	for _, c := range []struct {
		l, yes []int
		want   bool
	}{
		{nil, nil, false}, {nil, []int{1}, false}, {[]int{}, []int{1, 2, 3}, false},
		{[]int{1}, nil, false}, {[]int{1}, []int{1}, true}, {[]int{1}, []int{2}, false},
		{[]int{1, 2}, []int{1}, false}, {[]int{1, 2}, []int{2, 1}, true},
		{[]int{1, 2, 3}, []int{1}, false}, {[]int{1, 2, 3}, []int{1, 3}, true}, {[]int{1, 2, 3}, []int{3, 1}, true},
		{[]int{1, 2, 3}, []int{1, 1}, false}, {[]int{1, 2, 3}, []int{2, 2, 2, 2}, false}, {[]int{1, 2, 3}, []int{9, 3, 7, 1, 8}, true},
		{[]int{1, 2, 3}, []int{4, 5, 6, 7}, false}, {[]int{1, 2, 3}, []int{1, 4, 5}, false},
		{[]int{1, 2, 3, 4}, []int{1, 2}, false}, {[]int{1, 2, 3, 4}, []int{4, 2, 1}, true},
		{[]int{1, 2, 3, 4, 5, 6}, []int{1, 2, 3}, false}, {[]int{1, 2, 3, 4, 5, 6, 7}, []int{1, 2, 3}, false},
		{[]int{1, 2, 3, 4, 5, 6, 7}, []int{7, 6, 5, 4}, true},
		{[]int{0, -1, math.MaxInt, math.MinInt}, []int{math.MinInt, -1, math.MaxInt}, true}, {[]int{1, 2, 3}, []int{1<<32 + 1, 1<<32 + 2}, false},
	} {
		if got := conf.Most(c.l, c.yes); got != c.want {
			t.Errorf("Most(%v, %v): %v", c.l, c.yes, got)
		}
	}
}

// C3: all pairs of sets of the numbers 1 to 9.
func TestMostAll(t *testing.T) {
	for a := range 1 << 9 {
		for b := range 1 << 9 {
			want := 2*bits.OnesCount(uint(a&b)) > bits.OnesCount(uint(a))
			if conf.Most(set(a, 1), set(b, 1)) != want {
				t.Fatalf("Most(%v, %v): not %v", set(a, 1), set(b, 1), want)
			}
		}
	}
}

// C3, P1: any numbers, in any order.
func TestMostAny(t *testing.T) {
	r := rand.New(rand.NewSource(2))
	for range 50000 {
		l, yes := drawn(r, 9), drawn(r, 14)
		if got := conf.Most(l, yes); got != most(l, yes) {
			t.Fatalf("Most(%v, %v): %v", l, yes, got)
		}
	}
}

// C3: what more than half reach, in any order; of two in the middle it is the lesser.
func TestAgreed(t *testing.T) {
	for _, c := range []struct {
		match []int
		want  int
	}{
		{nil, 0}, {[]int{}, 0}, {[]int{7}, 7}, {[]int{-7}, -7}, {[]int{3, 8}, 3}, {[]int{8, 3}, 3},
		{[]int{5, 7, 2}, 5}, {[]int{5, 7, 2, 9}, 5}, {[]int{9, 5, 2, 7}, 5}, {[]int{1, 2, 3, 4, 5}, 3}, {[]int{6, 5, 4, 3, 2, 1}, 3},
		{[]int{4, 4, 4, 9, 9}, 4}, {[]int{9, 9, 9, 1, 1}, 9}, {[]int{0, 0, 9, 9}, 0}, {[]int{6, 6, 6}, 6},
		{[]int{-3, -5, -4}, -4}, {[]int{-1, -2}, -2}, {[]int{0, 0, 5}, 0},
		{[]int{math.MinInt, math.MaxInt}, math.MinInt}, {[]int{math.MaxInt, math.MaxInt, math.MinInt}, math.MaxInt},
	} {
		if got := conf.Agreed(c.match); got != c.want {
			t.Errorf("Agreed(%v): %d", c.match, got)
		}
	}
}

// C3: all rows of up to five numbers from -1 to 4, and any numbers.
func TestAgreedAll(t *testing.T) {
	for n := range 6 * 6 * 6 * 6 * 6 {
		l := []int{n%6 - 1, n/6%6 - 1, n/36%6 - 1, n/216%6 - 1, n/1296 - 1}
		for end := range 6 {
			holdsAgreed(t, l[:end])
		}
	}
	r := rand.New(rand.NewSource(3))
	for range 20000 {
		holdsAgreed(t, drawn(r, 20))
	}
}

// C3, P1: long slices, through which no number is searched for one by one.
func TestLong(t *testing.T) {
	size := 300000
	up, down := make([]int, size), make([]int, size)
	for k := range size {
		up[k], down[k] = k, size-k // down has all of up but 0, and none beyond it but size
	}
	if !conf.Most(up, down) || !conf.Most(down, up[size/2-1:]) || conf.Most(down, up[size/2:]) || conf.Most(up, up[:size/2]) {
		t.Error("Most")
	}
	if a, b := conf.Agreed(up), conf.Agreed(down); a != size/2-1 || b != size/2 {
		t.Error("Agreed:", a, b)
	}
	if conf.Right(up) || conf.Next(up, up[1:]) || conf.Has(up, size) || !conf.Has(up, size-1) {
		t.Error("Right, Next or Has")
	}
	if l := conf.With(up, size); len(l) != size+1 || l[size] != size || len(conf.Without(up, 9)) != size-1 {
		t.Error("With or Without")
	}
}
