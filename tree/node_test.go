package tree_test

import (
	"slices"
	"strings"
	"testing"

	"kiosk/api"
	"kiosk/tree"
	"kiosk/xml"
)

// E2: Tokens: Open, Words where there is text, the children, Close.
func TestTokens(t *testing.T) {
	for _, c := range []struct {
		n    tree.Node
		want []xml.Token
	}{
		{tree.Node{}, []xml.Token{open(""), closed("")}},
		{node("a", ""), []xml.Token{open("a"), closed("a")}},
		{with(node("a", ""), "x", "1", "x", "2"), []xml.Token{open("a", "x", "1", "x", "2"), closed("a")}},
		{node("a", "p"), []xml.Token{open("a"), words("p"), closed("a")}},
		{node("a", " "), []xml.Token{open("a"), words(" "), closed("a")}},
		{node("a", "", node("b", "")), []xml.Token{open("a"), open("b"), closed("b"), closed("a")}},
		{with(node("a", "p", with(node("b", "q", node("d", "")), "y", "2"), node("c", "r")), "x", "1"),
			[]xml.Token{open("a", "x", "1"), words("p"), open("b", "y", "2"), words("q"), open("d"), closed("d"), closed("b"),
				open("c"), words("r"), closed("c"), closed("a")}},
	} {
		if l := tree.Tokens(c.n); !same(l, c.want) {
			t.Errorf("%v: %v, not %v", c.n, l, c.want)
		}
	}
}

// E2: Kid and All choose among the children, not the elements in them.
func TestKids(t *testing.T) {
	first := with(node("b", "1", node("d", "in")), "i", "1")
	n := node("a", "", first, node("c", "2"), node("b", "3"), node("", "4"), node("a", "5"), node("b", "6"))
	for _, c := range []struct {
		name string
		want []tree.Node
	}{
		{"b", []tree.Node{first, node("b", "3"), node("b", "6")}},
		{"c", []tree.Node{node("c", "2")}},
		{"a", []tree.Node{node("a", "5")}},
		{"", []tree.Node{node("", "4")}},
		{"d", nil},
		{"B", nil},
		{"bb", nil},
	} {
		if l := n.All(c.name); !slices.EqualFunc(l, c.want, alike) {
			t.Errorf("All %q: %v", c.name, l)
		}
		k, ok := n.Kid(c.name)
		if ok != (len(c.want) > 0) || ok && !alike(k, c.want[0]) || !ok && !alike(k, tree.Node{}) {
			t.Errorf("Kid %q: %v %v", c.name, k, ok)
		}
	}
	if k, ok := (tree.Node{}).Kid(""); ok || !alike(k, tree.Node{}) {
		t.Errorf("%v %v", k, ok)
	}
	if l := (tree.Node{}).All(""); len(l) != 0 {
		t.Errorf("%v", l)
	}
}

// E2: Attr is the first one with the name.
func TestAttr(t *testing.T) {
	n := with(node("a", "", with(node("b", ""), "w", "9")), "x", "1", "y", "", "x", "2", "", "3")
	for _, c := range []struct {
		name, want string
		ok         bool
	}{{"x", "1", true}, {"y", "", true}, {"", "3", true}, {"z", "", false}, {"X", "", false}, {"w", "", false}, {"1", "", false}} {
		if v, ok := n.Attr(c.name); v != c.want || ok != c.ok {
			t.Errorf("%q: %q %v", c.name, v, ok)
		}
	}
}

// E2: Size: how many elements, and how deep.
func TestSize(t *testing.T) {
	for _, c := range []struct {
		n            tree.Node
		count, depth int
	}{
		{tree.Node{}, 1, 1},
		{with(node("a", "p"), "x", "1"), 1, 1},
		{node("a", "", node("b", "")), 2, 2},
		{node("a", "", node("b", ""), node("b", ""), node("b", "")), 4, 2},
		{node("a", "", node("b", "", node("c", "", node("d", ""))), node("b", "", node("c", ""))), 6, 4},
		{node("a", "", node("b", ""), node("b", "", node("c", ""), node("c", "")), node("d", "")), 6, 3},
		{chain(21), 21, 21},
	} {
		if count, depth := tree.Size(c.n); count != c.count || depth != c.depth {
			t.Errorf("%v: %d %d, not %d %d", c.n, count, depth, c.count, c.depth)
		}
	}
}

// P1: trees as deep as a program may be given, and wide ones.
func TestGreatTrees(t *testing.T) {
	const levels, many = 1 << 16, 300000
	deep, wide := chain(levels), node("a", "", slices.Repeat([]tree.Node{node("b", "p")}, many)...)
	for _, c := range []struct {
		n                    tree.Node
		count, depth, tokens int
		e                    api.Errno
	}{{deep, levels, levels, 2 * levels, api.ErrDeep}, {wide, many + 1, 2, 3*many + 2, api.OK}} {
		if count, depth := tree.Size(c.n); count != c.count || depth != c.depth {
			t.Errorf("%d %d", count, depth)
		}
		l := tree.Tokens(c.n)
		if len(l) != c.tokens {
			t.Errorf("%d", len(l))
		}
		if _, e := tree.Build(l); e != c.e {
			t.Errorf("%v", e)
		}
	}
	if k, ok := deep.Kid("a"); !ok || len(k.Kids) != 1 {
		t.Error("Kid of a deep tree")
	}
	if l := wide.All("b"); len(l) != many {
		t.Errorf("%d", len(l))
	}
	if l := deep.All("b"); len(l) != 0 {
		t.Errorf("%d", len(l))
	}
}

// family makes the same tree each time: one that is changed can be held against another.
func family() tree.Node {
	inner := with(node("c", "z"), "k", "3")
	return with(node("a", "p", with(node("b", "q", inner), "j", "2"), node("b", "r")), "i", "1")
}

// spoil changes all lists of a tree in place, and writes behind their ends.
func spoil(n tree.Node) {
	for i := range n.Attrs {
		n.Attrs[i] = xml.Attr{Name: "bad", Value: "bad"}
	}
	for i := range n.Kids {
		spoil(n.Kids[i])
		n.Kids[i] = node("bad", "bad")
	}
	_ = append(n.Attrs, xml.Attr{Name: "bad"})
	_ = append(n.Kids, node("bad", "bad"))
}

// P3: nothing that is answered shares memory with the tree, nor with another answer.
func TestAnswersOfTheirOwn(t *testing.T) {
	n := family()
	k, _ := n.Kid("b")
	all := n.All("b")
	l := tree.Tokens(n)
	told := tree.Tokens(family())

	spoil(k)
	if !alike(n, family()) || !alike(all[0], family().Kids[0]) {
		t.Errorf("Kid shares: %v, %v", n, all)
	}
	for i := range all {
		spoil(all[i])
		all[i] = tree.Node{}
	}
	if !alike(n, family()) {
		t.Errorf("All shares: %v", n)
	}
	for i := range l {
		for j := range l[i].Attrs {
			l[i].Attrs[j].Value = "bad"
		}
		_ = append(l[i].Attrs, xml.Attr{Name: "bad"})
	}
	if !alike(n, family()) {
		t.Errorf("Tokens shares: %v", n)
	}

	k, _ = n.Kid("b")
	all, l = n.All("b"), tree.Tokens(n)
	spoil(n)
	if !alike(k, family().Kids[0]) || !slices.EqualFunc(all, family().Kids, alike) || !same(l, told) {
		t.Errorf("kept: %v, %v, %v", k, all, l)
	}
}

// P3: what is behind the end of a tree's lists is neither read nor written.
func TestSpare(t *testing.T) {
	some, others := attrs("x", "1", "y", "2"), []tree.Node{node("b", ""), node("c", "")}
	n := tree.Node{Name: "a", Attrs: some[:1], Kids: others[:1]}
	outer := node("o", "", n)
	k, _ := outer.Kid("a")
	for _, x := range []tree.Node{k, outer.All("a")[0]} {
		_, _ = append(x.Attrs, xml.Attr{}), append(x.Kids, tree.Node{})
	}
	_ = append(tree.Tokens(n)[0].Attrs, xml.Attr{})
	if some[1].Name != "y" || others[1].Name != "c" {
		t.Errorf("written: %v %v", some, others)
	}
	if _, ok := n.Attr("y"); ok {
		t.Error("an attribute behind the end")
	}
	if _, ok := n.Kid("c"); ok || len(n.All("c")) != 0 {
		t.Error("a child behind the end")
	}
	if count, depth := tree.Size(n); count != 2 || depth != 2 {
		t.Errorf("%d %d", count, depth)
	}
	if l := tree.Tokens(n); !same(l, []xml.Token{open("a", "x", "1"), open("b"), closed("b"), closed("a")}) {
		t.Errorf("%v", l)
	}
}

// E3: the parts between space, with one blank between them.
func TestSqueeze(t *testing.T) {
	for _, c := range []struct{ s, want string }{
		{"", ""}, {" ", ""}, {" \t\n\r", ""}, {"a", "a"}, {" a", "a"}, {"a ", "a"}, {"  a \n b ", "a b"},
		{"a b", "a b"}, {"a  b", "a b"}, {"a\tb\nc\rd", "a b c d"}, {"\r\nab\t\tcd\n", "ab cd"},
		{"\xff \xfe\t\xc3 \xa9", "\xff \xfe \xc3 \xa9"}, {"é\u00a0x\u2003y\u0085z", "é\u00a0x\u2003y\u0085z"}, {"\ufffd \ufffd", "\ufffd \ufffd"},
	} {
		if s := tree.Squeeze(c.s); s != c.want {
			t.Errorf("%q: %q, not %q", c.s, s, c.want)
		}
	}
	for b := range 256 {
		s := string([]byte{byte(b)})
		between, alone := "x"+s+"y", s
		if strings.Contains(" \t\n\r", s) {
			between, alone = "x y", ""
		}
		if got := tree.Squeeze("x" + s + "y"); got != between {
			t.Errorf("%q: %q", s, got)
		}
		if got := tree.Squeeze(s); got != alone {
			t.Errorf("%q: %q", s, got)
		}
	}
}
