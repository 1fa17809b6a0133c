package conf

import (
	"cmp"
	"slices"
)

// sorted is a copy: the caller's slice keeps its order.
func sorted[T cmp.Ordered](l []T) []T {
	l = slices.Clone(l)
	slices.Sort(l)
	return l
}

// rising tells whether no number stands twice, or behind a greater one.
func rising(l []int) bool {
	return slices.Equal(l, slices.Compact(sorted(l)))
}

// common is how many numbers of l occur in m.
func common(l, m []int) int {
	m = sorted(m) // each number is then found without going through all
	count := 0
	for _, n := range l {
		if _, there := slices.BinarySearch(m, n); there {
			count++
		}
	}
	return count
}

// Most tells whether more than half of some are in a row.
func Most(l, yes []int) bool { return common(l, yes) > len(l)/2 }

// Agreed is what more than half of some are, or are above: the one in the middle, or the lesser of the two there.
func Agreed(match []int) int {
	if len(match) == 0 {
		return 0
	}
	return sorted(match)[(len(match)-1)/2]
}
