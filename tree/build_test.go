package tree_test

import (
	"math"
	"slices"
	"strconv"
	"strings"
	"testing"

	"kiosk/api"
	"kiosk/tree"
	"kiosk/xml"
)

// E1: an element is its Open, its content and its Close; its children are those in it that are in no other child.
func TestElements(t *testing.T) {
	builds(t, node("a", ""), open("a"), closed("a"))
	builds(t, node("", ""), open(""), closed(""))
	builds(t, with(node("a", ""), "x", "1", "y", "2", "x", "3"), open("a", "x", "1", "y", "2", "x", "3"), closed("a"))
	builds(t, node("a", "", node("b", "", node("a", "")), node("c", ""), node("b", "")),
		open("a"), open("b"), open("a"), closed("a"), closed("b"), open("c"), closed("c"), open("b"), closed("b"), closed("a"))
	builds(t, with(node("a", "", with(node("b", ""), "y", "2"), with(node("c", ""), "z", "3")), "x", "1"),
		open("a", "x", "1"), open("b", "y", "2"), closed("b"), open("c", "z", "3"), closed("c"), closed("a"))
}

// E1: the text of an element is all Words in it that are not in one of its children, one behind the other.
func TestText(t *testing.T) {
	builds(t, node("a", "p"), open("a"), words("p"), closed("a"))
	builds(t, node("a", "pqr"), open("a"), words("p"), words(""), words("q"), words("r"), closed("a"))
	builds(t, node("a", " \n p \t\r"), open("a"), words(" \n"), words(" p "), words("\t\r"), closed("a"))
	builds(t, node("a", "\xff\x00é"), open("a"), words("\xff\x00"), words("é"), closed("a"))
	builds(t, node("a", "135", node("b", "2"), node("b", "4", node("c", "x"))),
		open("a"), words("1"), open("b"), words("2"), closed("b"), words("3"),
		open("b"), open("c"), words("x"), closed("c"), words("4"), closed("b"), words("5"), closed("a"))
}

// E1: what a token has that its Kind does not give a meaning is passed over.
func TestOtherFields(t *testing.T) {
	builds(t, node("a", "p"),
		xml.Token{Kind: xml.Open, Name: "a", Text: "t"},
		xml.Token{Kind: xml.Words, Name: "b", Attrs: attrs("x", "1"), Text: "p"},
		xml.Token{Kind: xml.Close, Name: "a", Attrs: attrs("y", "2"), Text: "u"})
}

// E1: outside of all elements there may be space, and nothing else.
func TestOutside(t *testing.T) {
	want := node("a", "")
	builds(t, want, words(""), words(" \t"), words("\n\r"), open("a"), closed("a"), words(" "), words(""), words("\r\n\t"))
	for b := range 256 {
		s := string([]byte{byte(b)})
		for _, text := range []string{s, " " + s, s + "\n", " " + s + " "} {
			if strings.Contains(" \t\n\r", s) {
				builds(t, want, words(text), open("a"), closed("a"))
				builds(t, want, open("a"), closed("a"), words(text))
				continue
			}
			fails(t, api.ErrForm, words(text), open("a"), closed("a"))
			fails(t, api.ErrForm, open("a"), closed("a"), words(text))
			builds(t, node("a", text), open("a"), words(text), closed("a"))
		}
	}
	fails(t, api.ErrForm, words("\u00a0"), open("a"), closed("a"))
	fails(t, api.ErrForm, words(" x\n"), open("a"), closed("a"))
	fails(t, api.ErrForm, open("a"), closed("a"), words(" "), words("x"))
}

// E1: a Close that is not that of the innermost open element.
func TestClose(t *testing.T) {
	fails(t, api.ErrForm, closed("a"))
	fails(t, api.ErrForm, closed(""))
	fails(t, api.ErrForm, open("a"), closed("b"))
	fails(t, api.ErrForm, open("a"), closed(""))
	fails(t, api.ErrForm, open("a"), closed("A"))
	fails(t, api.ErrForm, open("a"), closed("aa"))
	fails(t, api.ErrForm, open("a"), open("b"), closed("a"), closed("b"))
	fails(t, api.ErrForm, open("a"), open("b"), closed("a"), closed("a"))
	fails(t, api.ErrForm, open("a"), open("b"), closed("b"), closed("b"))
	fails(t, api.ErrForm, open("a"), closed("a"), closed("a"))
}

// E1: there is one element, as a whole.
func TestOne(t *testing.T) {
	fails(t, api.ErrForm)
	fails(t, api.ErrForm, words(" "))
	fails(t, api.ErrForm, open("a"))
	fails(t, api.ErrForm, open("a"), words("p"))
	fails(t, api.ErrForm, open("a"), open("a"), closed("a"))
	fails(t, api.ErrForm, open("a"), closed("a"), open("b"), closed("b"))
	fails(t, api.ErrForm, open("a"), closed("a"), words(" "), open("a"), closed("a"))
	fails(t, api.ErrForm, open("a"), closed("a"), open("a"))
}

// E1: tokens of another Kind, wherever they stand.
func TestKinds(t *testing.T) {
	for _, kind := range []int{0, 4, -1, -2, -3, 9, math.MaxInt, math.MinInt, 1 << 32, 1<<32 + 1} {
		odd := xml.Token{Kind: kind, Name: "a"}
		fails(t, api.ErrForm, odd)
		fails(t, api.ErrForm, odd, open("a"), closed("a"))
		fails(t, api.ErrForm, open("a"), odd, closed("a"))
		fails(t, api.ErrForm, open("a"), closed("a"), odd)
		fails(t, api.ErrForm, open("a"), odd)
	}
}

// E1: 20 elements in one another, and none in the innermost.
func TestDeep(t *testing.T) {
	opens, ends := repeat(20, open("a")), repeat(20, closed("a"))
	builds(t, chain(20), slices.Concat(opens, ends)...)
	fails(t, api.ErrDeep, repeat(21, open("a"))...)
	fails(t, api.ErrDeep, slices.Concat(repeat(21, open("a")), repeat(21, closed("a")))...)
	fails(t, api.ErrDeep, slices.Concat(repeat(20, open("a")), repeat(5, words("p")), repeat(2, open("a")))...)

	// beside one another, there may be any number of them
	wide := slices.Concat(repeat(19, open("a")), repeat(500, open("b"), closed("b")), repeat(19, closed("a")))
	n, e := tree.Build(wide)
	if count, depth := tree.Size(n); e != api.OK || count != 519 || depth != 20 {
		t.Errorf("%v %d %d", e, count, depth)
	}
	again := slices.Concat(repeat(20, open("a")), repeat(10, closed("a")), repeat(10, open("a")), ends)
	if n, e := tree.Build(again); e != api.OK || len(n.Kids) != 1 {
		t.Errorf("%v %v", n, e)
	}
	fails(t, api.ErrDeep, slices.Concat(repeat(20, open("a")), repeat(10, closed("a")), repeat(11, open("a")))...)
}

// E1: of several errors, the one that comes first from the beginning.
func TestFirstError(t *testing.T) {
	opens, deep := repeat(20, open("a")), repeat(21, open("a"))
	fails(t, api.ErrForm, slices.Concat(opens, []xml.Token{closed("b")}, deep)...)
	fails(t, api.ErrForm, slices.Concat(opens, []xml.Token{{Kind: 9}}, deep)...)
	fails(t, api.ErrForm, slices.Concat([]xml.Token{words("x")}, deep)...)
	fails(t, api.ErrForm, slices.Concat([]xml.Token{closed("a")}, deep)...)
	fails(t, api.ErrForm, slices.Concat([]xml.Token{open("a"), closed("a")}, deep)...)
	fails(t, api.ErrForm, slices.Concat(opens, repeat(20, closed("a")), deep)...)
	fails(t, api.ErrDeep, slices.Concat(deep, []xml.Token{closed("b")})...)
	fails(t, api.ErrDeep, slices.Concat(deep, []xml.Token{{Kind: 9}})...)
	fails(t, api.ErrDeep, slices.Concat(deep, repeat(21, closed("a")), []xml.Token{open("b")})...)
}

// E1: Parse is Read, and then Build.
func TestParse(t *testing.T) {
	parses(t, `<a x="1">p<b/>q<b>r</b></a>`, with(node("a", "pq", node("b", ""), node("b", "r")), "x", "1"))
	parses(t, " <?xml?>\n<!-- x --><a>&lt;<![CDATA[&]]></a>\t", node("a", "<&"))
	parses(t, "<a></a >&#32;&#10;", node("a", ""))
	for _, s := range []string{"", " ", "<!-- x -->", "<a>", "<a><b></a>", "</a>", "<a></b>", "<a/><b/>", "x<a/>", "<a/>x", "<a/>&amp;", "<a/><![CDATA[x]]>"} {
		rejects(t, s, api.ErrForm)
	}
	deep := strings.Repeat("<a>", 20)
	parses(t, deep+strings.Repeat("</a>", 20), chain(20))
	rejects(t, deep+"<a/>"+strings.Repeat("</a>", 20), api.ErrDeep)
	rejects(t, deep+"<a>", api.ErrDeep)
}

// E1: an error of Read comes ahead of those of Build, wherever it is.
func TestParseReads(t *testing.T) {
	deep := strings.Repeat("<a>", 21)
	rejects(t, deep+"&", api.ErrForm)
	rejects(t, deep+"<", api.ErrForm)
	rejects(t, "<a", api.ErrForm)
	rejects(t, "<a/>&", api.ErrForm)
	rejects(t, deep+strings.Repeat(" ", 20000), api.ErrLong)
	rejects(t, "<a/><"+strings.Repeat(" ", 20000), api.ErrLong)
	rejects(t, "<a/>"+strings.Repeat(" ", 19997), api.ErrLong)
	parses(t, "<a/>"+strings.Repeat(" ", 19996), node("a", ""))
}

// P1: very many tokens are no harm.
func TestManyTokens(t *testing.T) {
	const many = 200000
	l := slices.Concat([]xml.Token{open("a")}, repeat(many, words("pq")), []xml.Token{closed("a")})
	if n, e := tree.Build(l); e != api.OK || len(n.Text) != 2*many {
		t.Errorf("%d %v", len(n.Text), e)
	}
	l = slices.Concat([]xml.Token{open("a")}, repeat(many, open("b"), closed("b")), []xml.Token{closed("a")})
	if n, e := tree.Build(l); e != api.OK || len(n.Kids) != many {
		t.Errorf("%d %v", len(n.Kids), e)
	}
	fails(t, api.ErrDeep, repeat(many, open("a"))...)
	fails(t, api.ErrForm, repeat(many, words(" "))...)
}

// P3: the tokens are not changed and not kept, and what is behind the end of their list is not read.
func TestBuildKeepsNothing(t *testing.T) {
	fresh := func() []xml.Token {
		return []xml.Token{open("a", "x", "1"), open("b", "y", "2"), words("p"), closed("b"), closed("a"), open("z"), open("z")}
	}
	want := with(node("a", "", with(node("b", "p"), "y", "2")), "x", "1")
	l := fresh()
	n, e := tree.Build(l[:5])
	if e != api.OK || !alike(n, want) {
		t.Errorf("%v %v", n, e)
	}
	if !same(l, fresh()) {
		t.Errorf("changed: %v", l)
	}
	for i := range l {
		for k := range l[i].Attrs {
			l[i].Attrs[k] = xml.Attr{Name: "q", Value: "q"}
		}
		l[i] = words("q")
	}
	if !alike(n, want) {
		t.Errorf("kept: %v", n)
	}

	// what is done to the tree doesn't show in the tokens
	l = fresh()
	n, _ = tree.Build(l[:5])
	n.Attrs[0].Name, n.Kids[0].Attrs[0].Value = "q", "q"
	n.Attrs, n.Kids[0].Attrs = append(n.Attrs, attrs("r", "r")...), append(n.Kids[0].Attrs, attrs("r", "r")...)
	if !same(l, fresh()) {
		t.Errorf("shared: %v", l)
	}
}

// P3: attributes behind the end of a token's list are neither read nor written.
func TestBuildSpareAttrs(t *testing.T) {
	l := attrs("x", "1", "y", "2", "z", "3")
	n, _ := tree.Build([]xml.Token{{Kind: xml.Open, Name: "a", Attrs: l[:1]}, closed("a")})
	if len(n.Attrs) != 1 {
		t.Errorf("%v", n)
	}
	n.Attrs = append(n.Attrs, attrs("q", "q")...)
	if !slices.Equal(l, attrs("x", "1", "y", "2", "z", "3")) {
		t.Errorf("%v", l)
	}
}

// P4: the calls know nothing of each other.
func TestBuildAgain(t *testing.T) {
	for i := range 3 {
		name := "a" + strconv.Itoa(i)
		builds(t, node(name, "p"), open(name), words("p"), closed(name))
		fails(t, api.ErrForm, open(name), words("p"))
	}
}
