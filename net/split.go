package net

// among tells who is in a group. It remembers the numbers, not the slice: that is the caller's.
func among(group []int) func(node int) bool {
	members := map[int]struct{}{}
	for _, node := range group {
		members[node] = struct{}{}
	}
	return func(node int) bool {
		_, there := members[node]
		return there
	}
}

// Split holds a group off all others, Whole does away with that.
func (n *Net) Split(group []int) { n.inside = among(group) }

func (n *Net) Whole() { n.inside = nil }

func (n *Net) Apart(a, b int) bool {
	return n.inside != nil && n.inside(a) != n.inside(b)
}
