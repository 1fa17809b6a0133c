package tree

import (
	"slices"

	"kiosk/xml"
)

func Tokens(n Node) []xml.Token {
	var l []xml.Token
	var tell func(n Node)
	tell = func(n Node) {
		l = append(l, xml.Token{Kind: xml.Open, Name: n.Name, Attrs: slices.Clone(n.Attrs)})
		if n.Text != "" {
			l = append(l, xml.Token{Kind: xml.Words, Text: n.Text})
		}
		for _, k := range n.Kids {
			tell(k)
		}
		l = append(l, xml.Token{Kind: xml.Close, Name: n.Name})
	}
	tell(n)
	return l
}

// Size is how many elements there are, and how many in one another.
func Size(n Node) (int, int) {
	elements, deepest := 0, 0
	var count func(n Node, depth int)
	count = func(n Node, depth int) {
		elements++
		deepest = max(deepest, depth)
		for _, k := range n.Kids {
			count(k, depth+1)
		}
	}
	count(n, 1)
	return elements, deepest
}

// apart copies a tree with its lists, so that what is done to the copy
// doesn't show in the tree.
func apart(n Node) Node {
	var renew func(n *Node)
	renew = func(n *Node) {
		n.Attrs = slices.Clone(n.Attrs)
		n.Kids = slices.Clone(n.Kids)
		for i := range n.Kids {
			renew(&n.Kids[i])
		}
	}
	renew(&n)
	return n
}
