package net_test

import (
	"math"
	"testing"

	"kiosk/net"
)

// holdsOff asks for each two of the numbers whether they are apart: they are where one is in the group and the other is not.
func holdsOff(t *testing.T, n *net.Net, all []int, group map[int]bool) {
	t.Helper()
	for _, a := range all {
		for _, b := range all {
			if got := n.Apart(a, b); got != (group[a] != group[b]) {
				t.Errorf("Apart(%d, %d): %v, and the group is %v", a, b, got, group)
			}
		}
	}
}

func members(group ...int) map[int]bool {
	m := map[int]bool{}
	for _, node := range group {
		m[node] = true
	}
	return m
}

var some = []int{0, 1, 2, 3, 4, 9, 10, -1, -4, 1 << 32, math.MaxInt, math.MinInt}

// N3: two nodes are apart where one is in the group and the other is not, whatever their numbers are; nobody is apart from itself.
func TestSplit(t *testing.T) {
	for _, group := range [][]int{
		nil, {}, {1}, {0}, {-1}, {1, 2}, {2, 1}, {3, 3, 3, 1, 3}, {math.MinInt, math.MaxInt}, {1 << 32}, some, {77},
	} {
		n := net.New()
		n.Split(group)
		holdsOff(t, n, some, members(group...))
		n.Whole()
		holdsOff(t, n, some, nil)
	}
}

// N3: a group takes the place of the one ahead of it, and one of nobody too; Whole takes it away, as often as one likes.
func TestSplitAgain(t *testing.T) {
	n := net.New()
	for _, group := range [][]int{{1, 2}, {2, 3}, {4}, {4}, {}, {1}, nil, {3, 4}} {
		n.Split(group)
		holdsOff(t, n, some, members(group...))
	}
	for range 2 {
		n.Whole()
		holdsOff(t, n, some, nil)
	}
	n.Split([]int{9})
	holdsOff(t, n, some, members(9))
}

// P3: the group is the caller's: what becomes of it later, and what stands behind its end, is nothing to the net.
func TestSplitOwn(t *testing.T) {
	row := []int{1, 2, 3, 4}
	n := net.New()
	n.Split(row[:2])
	holdsOff(t, n, some, members(1, 2))
	row[0] = 9
	row = append(row[:2], 10)
	holdsOff(t, n, some, members(1, 2))
	if row[0] != 9 || row[1] != 2 || row[2] != 10 || row[:4][3] != 4 {
		t.Error("the caller's group was changed:", row[:4])
	}
	other := net.New()
	holdsOff(t, other, some, nil)
	other.Split([]int{3})
	holdsOff(t, n, some, members(1, 2))
	n.Whole()
	holdsOff(t, other, some, members(3))
}

// N3, P1: a large group, in which nobody has to be searched for.
func TestSplitLarge(t *testing.T) {
	const many = 300000
	var group []int
	for i := range many {
		group = append(group, 2*i)
	}
	n := net.New()
	n.Split(group)
	for i := range many {
		if !n.Apart(2*i, 2*i+1) || n.Apart(0, 2*i) || n.Apart(1, 2*i+1) {
			t.Fatal(i)
		}
	}
	n.Send(0, 2*many, "a")
	takesNone(t, n, 0)
}
