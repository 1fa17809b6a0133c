package feed_test

import (
	"math/rand"
	"slices"
	"strconv"
	"strings"
	"testing"

	"kiosk/api"
	"kiosk/feed"
	"kiosk/tree"
	"kiosk/xml"
)

// The model goes by the chapter's words over a whole tree, one word after the other.

func children(n tree.Node, name string) []tree.Node {
	return slices.DeleteFunc(slices.Clone(n.Kids), func(k tree.Node) bool { return k.Name != name })
}

func squeezed(s string) string {
	s = strings.NewReplacer("\t", " ", "\n", " ", "\r", " ").Replace(s)
	for strings.Contains(s, "  ") {
		s = strings.ReplaceAll(s, "  ", " ")
	}
	return strings.Trim(s, " ")
}

func textOf(n tree.Node, name string) string {
	l := children(n, name)
	if len(l) == 0 || len(squeezed(l[0].Text)) > 200 {
		return ""
	}
	return squeezed(l[0].Text)
}

func attrOf(n tree.Node, name string) []string {
	var l []string
	for _, a := range n.Attrs {
		if a.Name == name {
			l = append(l, a.Value)
		}
	}
	return l
}

func linkOf(n tree.Node) string {
	for _, k := range children(n, "link") {
		if rel := attrOf(k, "rel"); len(rel) == 0 || rel[0] == "alternate" {
			href := append(attrOf(k, "href"), "")[0]
			if len(squeezed(href)) > 200 {
				return ""
			}
			return squeezed(href)
		}
	}
	return ""
}

func modelItems(n tree.Node) ([]api.Item, bool) {
	var all []api.Item
	switch {
	case n.Name == "feed":
		for _, k := range children(n, "entry") {
			all = append(all, item(textOf(k, "id"), textOf(k, "title"), linkOf(k)))
		}
	case n.Name == "rss" && len(children(n, "channel")) > 0:
		for _, k := range children(children(n, "channel")[0], "item") {
			y := item(textOf(k, "guid"), textOf(k, "title"), textOf(k, "link"))
			if y.ID == "" {
				y.ID = y.Link
			}
			all = append(all, y)
		}
	default:
		return nil, false
	}
	var l []api.Item
	for i, y := range all {
		earlier := slices.ContainsFunc(all[:i], func(z api.Item) bool { return z.ID == y.ID })
		if y.ID != "" && !earlier {
			l = append(l, y)
		}
	}
	return l[:min(len(l), 100)], true
}

// text draws a short text, an empty one, or one about as long as may be.
func text(r *rand.Rand) string {
	bits := []string{" ", "  ", "\n", "\t", "a", "b", "&", "<", "\"", "é", "\xff"}
	switch r.Intn(12) {
	case 0:
		return ""
	case 1:
		return x(198+r.Intn(3)) + bits[r.Intn(len(bits))] + x(r.Intn(3))
	}
	var s string
	for range 1 + r.Intn(4) {
		s += bits[r.Intn(len(bits))]
	}
	return s
}

// element draws what may be in an item, or at its place.
func element(r *rand.Rand, depth int) tree.Node {
	names := []string{"guid", "id", "title", "link", "link", "item", "entry", "a"}
	n := leaf(names[r.Intn(len(names))], text(r))
	for range r.Intn(3) {
		a := xml.Attr{Name: []string{"rel", "href", "href", "x"}[r.Intn(4)], Value: text(r)}
		if a.Name == "rel" {
			a.Value = []string{"alternate", "self", ""}[r.Intn(3)]
		}
		if len(attrOf(n, a.Name)) == 0 {
			n.Attrs = append(n.Attrs, a)
		}
	}
	if depth == 0 {
		return n
	}
	for range r.Intn(6) {
		n.Kids = append(n.Kids, element(r, depth-1))
	}
	return n
}

// document draws an element that is RSS or Atom most times.
func document(r *rand.Rand) tree.Node {
	list := func(name string) tree.Node {
		n := leaf(name, text(r))
		for range r.Intn(5) {
			n.Kids = append(n.Kids, element(r, 1+r.Intn(2)))
		}
		for range r.Intn(6) {
			k := element(r, 2)
			k.Name = []string{"item", "entry"}[r.Intn(2)]
			n.Kids = append(n.Kids, k)
		}
		return n
	}
	switch r.Intn(8) {
	case 0:
		return list("a")
	case 1, 2, 3:
		return list("feed")
	}
	n := leaf("rss", text(r))
	for range r.Intn(4) {
		n.Kids = append(n.Kids, list([]string{"channel", "channel", "channel", "item", "feed"}[r.Intn(5)]))
	}
	return n
}

// F1 and F3: Items and Extract answer as the words of the chapter say; what they answer is valid, and no ID is there twice.
func TestModel(t *testing.T) {
	r := rand.New(rand.NewSource(13))
	told := 0
	for range 15000 {
		n := document(r)
		l, ok := feed.Items(n)
		want, there := modelItems(n)
		if ok != there || !slices.Equal(l, want) {
			t.Fatalf("%q: %q %v, not %q %v", n, l, ok, want, there)
		}
		told += len(l)
		sound(t, l)
		s := xml.Write(tree.Tokens(n))
		if len(s) > api.MaxDoc {
			rejects(t, s, api.ErrLong)
			continue
		}
		if !there {
			rejects(t, s, api.ErrForm)
			continue
		}
		// What was written may be read in another way only where two parts of a text meet: there are none.
		if l, e := feed.Extract(s); e != api.OK || !slices.Equal(l, want) {
			t.Fatalf("%q: %q %v, not %q", s, l, e, want)
		}
	}
	if told < 3000 {
		t.Error("too few items:", told)
	}
}

// sound is for items that Extract answers.
func sound(t *testing.T, l []api.Item) {
	t.Helper()
	ids := map[string]bool{}
	for _, y := range l {
		if !feed.Right(y) || ids[y.ID] {
			t.Fatalf("%q", y)
		}
		ids[y.ID] = true
	}
}

// F3: Extract of what RSS and Atom write of valid items with distinct IDs yields these items.
func TestThereAndBack(t *testing.T) {
	r := rand.New(rand.NewSource(31))
	most := 0
	for range 3000 {
		var l []api.Item
		for range r.Intn(api.MaxItems + 1) {
			y := item(squeezed(text(r))+strconv.Itoa(r.Intn(1000)), squeezed(text(r)), squeezed(text(r)))
			used := slices.ContainsFunc(l, func(z api.Item) bool { return z.ID == y.ID })
			if feed.Right(y) && !used {
				l = append(l, y)
			}
		}
		title := text(r)
		for _, s := range []string{feed.RSS(title, l), feed.Atom(title, l)} {
			if len(s) > api.MaxDoc {
				rejects(t, s, api.ErrLong)
				continue
			}
			most = max(most, len(l))
			tells(t, s, l...)
		}
	}
	if most < 50 {
		t.Error("too few items at once:", most)
	}
}

// F1, F3 and P1: any bytes are answered; what is told is sound.
func TestAnyBytes(t *testing.T) {
	r := rand.New(rand.NewSource(113))
	pieces := []string{"<rss>", "</rss>", "<channel>", "</channel>", "<item>", "</item>", "<guid>", "</guid>", "<link>", "</link>", "<link href='a'/>", "<feed>", "</feed>", "<entry>", "</entry>", "<id>", "</id>", "<title>", "</title>", "a", " ", "&amp;", "&", "<", ">", "'", "\x00", "\xff", "<!-- a -->", "<![CDATA[", "]]>"}
	good := []string{feed.RSS("t", []api.Item{item("1", "a", "b"), item("2", "c", "d")}), feed.Atom("t", []api.Item{item("1", "a", "b"), item("2", "c", "d")})}
	for i := range 60000 {
		var s string
		if i%2 == 0 {
			for range r.Intn(12) {
				s += pieces[r.Intn(len(pieces))]
			}
		} else {
			b := []byte(good[r.Intn(2)])
			for range r.Intn(4) {
				at := r.Intn(len(b))
				b = slices.Replace(b, at, at+r.Intn(min(9, len(b)-at)), []byte(pieces[r.Intn(len(pieces))])...)
			}
			s = string(b)
		}
		l, e := feed.Extract(s)
		sound(t, l)
		n, f := tree.Parse(s)
		want, ok := modelItems(n)
		if f == api.OK && !ok {
			f = api.ErrForm
		}
		if e != f || !slices.Equal(l, want) {
			t.Fatalf("%q: %q %v, not %q %v", s, l, e, want, f)
		}
	}
}
