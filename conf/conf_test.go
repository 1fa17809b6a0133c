package conf_test

import (
	"math"
	"math/rand"
	"slices"
	"testing"

	"kiosk/conf"
)

// some are numbers at the edges of what a node may be, and far from it.
var some = []int{math.MinInt, -3, -1, 0, 1, 2, 3, 4, 5, 8, 9, 10, 11, 1 << 32, 1<<32 + 1, math.MaxInt}

// set are the numbers of the bits of a mask, the lowest of which stands for the number first.
func set(mask, first int) []int {
	var l []int
	for k := range 16 {
		if mask>>k&1 == 1 {
			l = append(l, first+k)
		}
	}
	return l
}

// right is C1 word by word.
func right(l []int) bool {
	if len(l) < 3 || len(l) > 7 {
		return false
	}
	for k, n := range l {
		if n < 1 || n > 9 || k > 0 && n <= l[k-1] {
			return false
		}
	}
	return true
}

// rightSets are all voters that may be.
func rightSets() [][]int {
	var all [][]int
	for mask := range 1 << 9 {
		if l := set(mask, 1); len(l) >= 3 && len(l) <= 7 {
			all = append(all, l)
		}
	}
	return all
}

// drawn are up to most numbers, in no order, and often twice.
func drawn(r *rand.Rand, most int) []int {
	l := make([]int, r.Intn(most+1))
	for k := range l {
		if l[k] = r.Intn(12) - 1; r.Intn(8) == 0 {
			l[k] = some[r.Intn(len(some))]
		}
	}
	return l
}

func holdsRight(t *testing.T, l []int) {
	t.Helper()
	if got := conf.Right(l); got != right(l) {
		t.Errorf("Right(%v): %v", l, got)
	}
}

// C1: how many voters there may be, and which numbers.
func TestRight(t *testing.T) {
	for _, c := range []struct {
		l    []int
		want bool
	}{
		{nil, false}, {[]int{}, false}, {[]int{1}, false}, {[]int{1, 2}, false},
		{[]int{1, 2, 3}, true}, {[]int{7, 8, 9}, true}, {[]int{1, 5, 9}, true},
		{[]int{1, 2, 3, 4, 5, 6, 7}, true}, {[]int{3, 4, 5, 6, 7, 8, 9}, true},
		{[]int{1, 2, 3, 4, 5, 6, 7, 8}, false}, {[]int{1, 2, 3, 4, 5, 6, 7, 8, 9}, false},
		{[]int{0, 1, 2}, false}, {[]int{8, 9, 10}, false}, {[]int{-1, 1, 2}, false},
		{[]int{math.MinInt, 1, 2}, false}, {[]int{1, 2, math.MaxInt}, false}, {[]int{1<<32 + 1, 1<<32 + 2, 1<<32 + 3}, false},
		{[]int{2, 1, 3}, false}, {[]int{1, 3, 2}, false}, {[]int{3, 2, 1}, false},
		{[]int{1, 1, 2}, false}, {[]int{1, 2, 2}, false}, {[]int{5, 5, 5}, false}, {[]int{1, 2, 3, 3}, false}, {[]int{1, 2, 3, 1}, false},
		{make([]int, 100000), false},
	} {
		if got := conf.Right(c.l); got != c.want {
			t.Errorf("Right(%.20v): %v", c.l, got)
		}
	}
}

// C1: all sets of the numbers -1 to 11, and all rows of up to four of them.
func TestRightAll(t *testing.T) {
	for mask := range 1 << 13 {
		holdsRight(t, set(mask, -1))
	}
	for n := range 13 * 13 * 13 * 13 {
		l := []int{n%13 - 1, n/13%13 - 1, n/169%13 - 1, n/2197 - 1}
		holdsRight(t, l)
		holdsRight(t, l[:3])
	}
}

// C1: voters of which one number is another one, or two have changed places.
func TestRightSpoilt(t *testing.T) {
	for _, l := range rightSets() {
		for k := range l {
			for _, n := range some {
				x := slices.Clone(l)
				x[k] = n
				holdsRight(t, x)
			}
			x := slices.Clone(l)
			x[0], x[k] = x[k], x[0]
			holdsRight(t, x)
		}
	}
}

// C1: a node is there wherever it stands, and as often as it does.
func TestHas(t *testing.T) {
	for _, l := range [][]int{nil, {}, {4}, {1, 2, 3}, {3, 9, 1, 8, 3}, {-1, 0, 10}, some} {
		for _, n := range append([]int{6, 7}, some...) {
			want := false
			for _, x := range l {
				want = want || x == n
			}
			if got := conf.Has(l, n); got != want {
				t.Errorf("Has(%v, %d): %v", l, n, got)
			}
		}
	}
}

// C1: a node is put ahead of the first that is greater, be there an order or not.
func TestWith(t *testing.T) {
	for _, c := range []struct {
		l    []int
		node int
		want []int
	}{
		{nil, 4, []int{4}}, {[]int{}, -4, []int{-4}},
		{[]int{2, 5, 7}, 1, []int{1, 2, 5, 7}}, {[]int{2, 5, 7}, 3, []int{2, 3, 5, 7}},
		{[]int{2, 5, 7}, 6, []int{2, 5, 6, 7}}, {[]int{2, 5, 7}, 9, []int{2, 5, 7, 9}},
		{[]int{2, 5, 7}, 2, []int{2, 5, 7}}, {[]int{2, 5, 7}, 5, []int{2, 5, 7}}, {[]int{2, 5, 7}, 7, []int{2, 5, 7}},
		{[]int{2, 5, 7}, 0, []int{0, 2, 5, 7}}, {[]int{2, 5, 7}, 10, []int{2, 5, 7, 10}},
		{[]int{2, 5, 7}, math.MinInt, []int{math.MinInt, 2, 5, 7}}, {[]int{2, 5, 7}, math.MaxInt, []int{2, 5, 7, math.MaxInt}},
		{[]int{1, 2, 3, 4, 5, 6, 7}, 8, []int{1, 2, 3, 4, 5, 6, 7, 8}},
		{[]int{1, 9, 2, 8}, 5, []int{1, 5, 9, 2, 8}}, {[]int{9, 1}, 5, []int{5, 9, 1}}, {[]int{3, 2, 1}, 4, []int{3, 2, 1, 4}},
		{[]int{9, 1, 5}, 5, []int{9, 1, 5}}, {[]int{5, 9, 5}, 5, []int{5, 9, 5}}, {[]int{4, 4}, 3, []int{3, 4, 4}}, {[]int{4, 4}, 5, []int{4, 4, 5}},
	} {
		if got := conf.With(c.l, c.node); !slices.Equal(got, c.want) {
			t.Errorf("With(%v, %d): %v", c.l, c.node, got)
		}
	}
}

// C1: a node is left out wherever it stands, and the others keep their order.
func TestWithout(t *testing.T) {
	for _, c := range []struct {
		l    []int
		node int
		want []int
	}{
		{nil, 4, nil}, {[]int{}, 0, nil}, {[]int{4}, 4, nil}, {[]int{4}, 0, []int{4}},
		{[]int{2, 5, 7}, 2, []int{5, 7}}, {[]int{2, 5, 7}, 5, []int{2, 7}}, {[]int{2, 5, 7}, 7, []int{2, 5}},
		{[]int{2, 5, 7}, 1, []int{2, 5, 7}}, {[]int{2, 5, 7}, 6, []int{2, 5, 7}}, {[]int{2, 5, 7}, 9, []int{2, 5, 7}},
		{[]int{2, 5, 7}, math.MinInt, []int{2, 5, 7}}, {[]int{2, math.MaxInt}, math.MaxInt, []int{2}},
		{[]int{9, 1, 8, 2}, 8, []int{9, 1, 2}}, {[]int{5, 9, 5, 5, 1}, 5, []int{9, 1}},
	} {
		if got := conf.Without(c.l, c.node); !slices.Equal(got, c.want) {
			t.Errorf("Without(%v, %d): %v", c.l, c.node, got)
		}
	}
}

// C1, P1: any numbers, against the words of the chapter.
func TestWithAny(t *testing.T) {
	r := rand.New(rand.NewSource(1))
	for range 50000 {
		l, node := drawn(r, 12), r.Intn(12)-1
		holdsRight(t, l)
		var with, without []int
		put := slices.Contains(l, node)
		for _, n := range l {
			if n > node && !put {
				with, put = append(with, node), true
			}
			if with = append(with, n); n != node {
				without = append(without, n)
			}
		}
		if !put {
			with = append(with, node)
		}
		if got := conf.With(l, node); !slices.Equal(got, with) {
			t.Fatalf("With(%v, %d): %v", l, node, got)
		}
		if got := conf.Without(l, node); !slices.Equal(got, without) {
			t.Fatalf("Without(%v, %d): %v", l, node, got)
		}
	}
}

// C2: one node more or one less, and both must be right.
func TestNext(t *testing.T) {
	seven := []int{1, 2, 3, 4, 5, 6, 7}
	for _, c := range []struct {
		l, m []int
		want bool
	}{
		{[]int{1, 2, 3}, []int{1, 2, 3, 4}, true}, {[]int{2, 5, 8}, []int{1, 2, 5, 8}, true},
		{[]int{2, 5, 8}, []int{2, 5, 8, 9}, true}, {[]int{2, 5, 8}, []int{2, 4, 5, 8}, true},
		{[]int{1, 2, 3}, []int{1, 2, 4}, false}, {[]int{1, 2, 3}, []int{1, 2, 3}, false}, {[]int{1, 2, 3}, []int{4, 5, 6}, false},
		{[]int{1, 2, 3}, []int{1, 2, 4, 5}, false}, {[]int{1, 2, 3}, []int{1, 2, 3, 4, 5}, false}, {[]int{1, 2, 3}, seven, false},
		{[]int{1, 2, 3}, []int{1, 2}, false}, {[]int{1, 2, 3}, []int{0, 1, 2, 3}, false}, {[]int{7, 8, 9}, []int{7, 8, 9, 10}, false},
		{[]int{1, 2}, []int{1}, false}, {[]int{1, 2, 3}, nil, false}, {nil, nil, false}, {nil, []int{1}, false},
		{[]int{1, 2, 3, 4, 5, 6}, seven, true}, {seven, []int{1, 2, 3, 4, 5, 6, 7, 8}, false},
		{[]int{1, 2, 3, 4, 5, 6, 7, 8}, []int{1, 2, 3, 4, 5, 6, 7, 8, 9}, false},
		{[]int{1, 2, 3}, []int{1, 2, 4, 3}, false}, {[]int{1, 2, 3}, []int{1, 2, 3, 3}, false}, {[]int{1, 3, 2}, []int{1, 2, 3, 4}, false},
		{[]int{0, 1, 2}, []int{0, 1, 2, 3}, false}, {[]int{8, 9, 10}, []int{7, 8, 9, 10}, false},
		{[]int{0, 1, 2, 3}, []int{1, 2, 3, 4}, false}, {[]int{1, 2, 3, 10}, []int{1, 2, 3}, false},
	} {
		if conf.Next(c.l, c.m) != c.want || conf.Next(c.m, c.l) != c.want {
			t.Errorf("Next of %v and %v: not %v", c.l, c.m, c.want)
		}
	}
}

// C2: all pairs of sets of the numbers 1 to 9, right or not: their masks have one bit that differs.
func TestNextAll(t *testing.T) {
	for a := range 1 << 9 {
		for b := range 1 << 9 {
			l, m := set(a, 1), set(b, 1)
			d := a ^ b
			want := right(l) && right(m) && d != 0 && d&(d-1) == 0
			if conf.Next(l, m) != want {
				t.Fatalf("Next(%v, %v): not %v", l, m, want)
			}
		}
	}
}

// P3: what is handed in stays, what lies behind its end is neither read nor written, and answers are new.
func TestArgumentsStay(t *testing.T) {
	row := []int{9, 3, 5, 7, 4, 1}
	keeps := slices.Clone(row)
	l := row[1:4]
	if conf.Has(l, 9) || conf.Has(l, 4) || !conf.Right(l) || conf.Right(row[1:3]) {
		t.Error("Has or Right looks beyond the ends")
	}
	conf.Right(row[:4])
	conf.Next(row[:4], row[:3])
	conf.Next(l, []int{3, 4, 5, 7})
	if conf.Most(row[:4], row[3:4]) || conf.Most(row[3:4], row[:3]) || conf.Agreed(row[:3]) != 5 {
		t.Error("Most or Agreed looks beyond the ends")
	}
	for _, node := range []int{0, 3, 4, 5, 6, 7, 8} {
		for _, x := range [][]int{conf.With(l, node), conf.Without(l, node)} {
			for k := range x {
				x[k] = -1
			}
			x = append(x, -1)
			if !slices.Equal(row, keeps) {
				t.Fatalf("node %d: %v", node, row)
			}
		}
	}
}
