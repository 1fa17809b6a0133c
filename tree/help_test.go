package tree_test

import (
	"slices"
	"testing"

	"kiosk/api"
	"kiosk/tree"
	"kiosk/xml"
)

// attrs makes attributes of names and values in turn.
func attrs(l ...string) []xml.Attr {
	var out []xml.Attr
	for i := 0; i+1 < len(l); i += 2 {
		out = append(out, xml.Attr{Name: l[i], Value: l[i+1]})
	}
	return out
}

func open(name string, l ...string) xml.Token {
	return xml.Token{Kind: xml.Open, Name: name, Attrs: attrs(l...)}
}

func closed(name string) xml.Token { return xml.Token{Kind: xml.Close, Name: name} }

func words(s string) xml.Token { return xml.Token{Kind: xml.Words, Text: s} }

// node makes an element without attributes.
func node(name, text string, kids ...tree.Node) tree.Node {
	return tree.Node{Name: name, Text: text, Kids: kids}
}

// with is n with attributes of names and values in turn.
func with(n tree.Node, l ...string) tree.Node {
	n.Attrs = attrs(l...)
	return n
}

// alike holds two trees against each other: an empty list is an empty list, nil or not (P5).
func alike(a, b tree.Node) bool {
	return a.Name == b.Name && a.Text == b.Text && slices.Equal(a.Attrs, b.Attrs) && slices.EqualFunc(a.Kids, b.Kids, alike)
}

// same holds two lists of tokens against each other.
func same(a, b []xml.Token) bool {
	return slices.EqualFunc(a, b, func(x, y xml.Token) bool {
		return x.Kind == y.Kind && x.Name == y.Name && x.Text == y.Text && slices.Equal(x.Attrs, y.Attrs)
	})
}

// chain is a tree of this depth, each element the only child of another one.
func chain(depth int) tree.Node {
	n := node("a", "")
	for range depth - 1 {
		n = node("a", "", n)
	}
	return n
}

// repeat is a list n times.
func repeat(n int, l ...xml.Token) []xml.Token { return slices.Repeat(l, n) }

// builds is for tokens that form this tree.
func builds(t *testing.T, want tree.Node, l ...xml.Token) {
	t.Helper()
	if n, e := tree.Build(l); e != api.OK || !alike(n, want) {
		t.Errorf("%.300v: %.300v %v, not %.300v", l, n, e, want)
	}
}

// fails is for tokens that form no tree: the answer beside the error is zero (P2).
func fails(t *testing.T, want api.Errno, l ...xml.Token) {
	t.Helper()
	if n, e := tree.Build(l); e != want || !alike(n, tree.Node{}) {
		t.Errorf("%.300v: %.300v %v, not %v", l, n, e, want)
	}
}

// parses is for a document of this tree.
func parses(t *testing.T, s string, want tree.Node) {
	t.Helper()
	if n, e := tree.Parse(s); e != api.OK || !alike(n, want) {
		t.Errorf("%.300q: %.300v %v, not %.300v", s, n, e, want)
	}
}

// rejects is for a document of no tree.
func rejects(t *testing.T, s string, want api.Errno) {
	t.Helper()
	if n, e := tree.Parse(s); e != want || !alike(n, tree.Node{}) {
		t.Errorf("%.300q: %.300v %v, not %v", s, n, e, want)
	}
}
