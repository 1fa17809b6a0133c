package feed_test

import (
	"slices"
	"strconv"
	"strings"
	"testing"

	"kiosk/api"
	"kiosk/feed"
	"kiosk/tree"
)

// F1: the chapter's examples.
func TestExamples(t *testing.T) {
	tells(t, feed.RSS("any", []api.Item{item("1", "T", "http://x")}), item("1", "T", "http://x"))
	tells(t, `<rss><channel><item><link> a  b </link></item><item/></channel></rss>`, item("a b", "", "a b"))
	tells(t, `<feed><entry><id>i</id><link rel="self" href="s"/><link href="h"/></entry></feed>`, item("i", "", "h"))
	rejects(t, `<a/>`, api.ErrForm)
}

// F1: the errors of tree.Parse come first; ErrForm is for what is neither RSS nor Atom.
func TestErrors(t *testing.T) {
	rejects(t, "", api.ErrForm)
	rejects(t, "no document", api.ErrForm)
	rejects(t, "<feed>", api.ErrForm)
	rejects(t, "<feed></rss>", api.ErrForm)
	rejects(t, "<feed>&no;</feed>", api.ErrForm)
	rejects(t, "<feed/><feed/>", api.ErrForm)
	rejects(t, atom("<entry><id>1</id></entry>")+"<", api.ErrForm)
	rejects(t, x(api.MaxDoc+1), api.ErrLong)
	rejects(t, atom(x(api.MaxDoc)), api.ErrLong)
	rejects(t, "<rss>"+strings.Repeat("<a>", api.MaxDeep), api.ErrDeep)
	rejects(t, "<a>"+strings.Repeat("<a>", api.MaxDeep), api.ErrDeep)
	for _, s := range []string{
		"<a/>", "<rss/>", "<RSS><channel/></RSS>", "<Feed/>", "<FEED/>", "<atom:feed/>", "<feeds/>", "<fee/>", "<channel><item><guid>1</guid></item></channel>",
		"<rss><item><guid>1</guid></item></rss>", "<rss><Channel/></rss>", "<rss><a><channel/></a></rss>", "<rss>channel</rss>", "<rss channel='1'/>",
		"<rss><feed><entry><id>1</id></entry></feed></rss>", "<a><rss><channel/></rss></a>", "<a><feed/></a>", "<rdf><channel/></rdf>", "<item><guid>1</guid></item>", "<entry><id>1</id></entry>",
	} {
		rejects(t, s, api.ErrForm)
		n, e := tree.Parse(s)
		if e != api.OK {
			t.Fatal(s, e)
		}
		lacks(t, n)
	}
	lacks(t, tree.Node{})
	lacks(t, leaf("", "rss"))
}

// F1: a document of the greatest length and depth is still taken.
func TestGreatest(t *testing.T) {
	s := "<entry><id>1</id></entry>"
	tells(t, atom(s+x(api.MaxDoc-len(atom(s)))), item("1", "", ""))
	deep := strings.Repeat("<a>", api.MaxDeep-3) + strings.Repeat("</a>", api.MaxDeep-3)
	tells(t, atom("<entry><id>1"+deep+"2</id></entry>"), item("12", "", ""))
}

// F1: the items of RSS are the children item of the first channel, whatever else there is.
func TestChannel(t *testing.T) {
	tells(t, "<rss><channel/></rss>")
	tells(t, "<rss version='0.91' x='y'> <a/> <channel/> </rss>")
	tells(t, "<rss><channel/><channel><item><guid>1</guid></item></channel></rss>")
	tells(t, "<rss><item><guid>0</guid></item><channel><item><guid>1</guid></item></channel><channel><item><guid>2</guid></item></channel><item><guid>3</guid></item></rss>", item("1", "", ""))
	tells(t, rss("<title>T</title><link>L</link><guid>no</guid><items><item><guid>1</guid></item></items><Item><guid>2</guid></Item><entry><id>3</id></entry>"))
	tells(t, rss("<item><guid>b</guid></item><a/><item><guid>a</guid></item>words<item><guid>c</guid></item>"), item("b", "", ""), item("a", "", ""), item("c", "", ""))
	tells(t, rss("<item><item><guid>1</guid></item></item>"))
	tells(t, rss("<channel><item><guid>1</guid></item></channel>"))
}

// F1: the ID of an item of RSS is the text of guid, or, if that is empty, of link.
func TestRSSItem(t *testing.T) {
	one := func(s string, want ...api.Item) {
		t.Helper()
		tells(t, rss("<item>"+s+"</item>"), want...)
	}
	one("<guid>1</guid><title>T</title><link>L</link>", item("1", "T", "L"))
	one("<link>L</link><title>T</title><guid>1</guid>", item("1", "T", "L"))
	one("<link>L</link><title>T</title>", item("L", "T", "L"))
	one("<guid/><link>L</link>", item("L", "", "L"))
	one("<guid> \t\r\n</guid><link>L</link>", item("L", "", "L"))
	one("<guid/><guid>1</guid><link>L</link>", item("L", "", "L"))
	one("<guid>"+x(201)+"</guid><link>L</link>", item("L", "", "L"))
	one("<guid>1</guid>", item("1", "", ""))
	one("<title>T</title>")
	one("<guid>" + x(201) + "</guid>")
	one("<link>" + x(201) + "</link><title>T</title>")
	one("<link href='L'/>")
	one("<id>1</id><title>T</title>")
	one("1")
	one("")
	one("<GUID>1</GUID><Link>L</Link>")
	one("<a><guid>1</guid></a><guid>2</guid>", item("2", "", ""))
}

// F1: the ID of an entry of Atom is the text of id alone.
func TestAtomItem(t *testing.T) {
	one := func(s string, want ...api.Item) {
		t.Helper()
		tells(t, atom("<entry>"+s+"</entry>"), want...)
	}
	one("<id>1</id><title>T</title><link href='L'/>", item("1", "T", "L"))
	one("<link href='L'/><title>T</title><id>1</id>", item("1", "T", "L"))
	one("<id>1</id>", item("1", "", ""))
	one("<id/><link href='L'/>")
	one("<link href='L'/>")
	one("<link>L</link>")
	one("<guid>1</guid><link href='L'/>")
	one("<title>T</title>")
	one("<id>" + x(201) + "</id><link href='L'/>")
	one("<id/><id>1</id>")
	one("<ID>1</ID>")
	one("<a><id>1</id></a><id>2</id>", item("2", "", ""))
	tells(t, "<feed/>")
	tells(t, atom("<id>f</id><title>F</title><link href='f'/><item><guid>1</guid></item><channel><item><guid>2</guid></item></channel><entries><entry><id>3</id></entry></entries><Entry><id>4</id></Entry>"))
	tells(t, "<feed xmlns='any'>"+"<entry><id>b</id></entry>words<a/><entry><id>a</id></entry></feed>", item("b", "", ""), item("a", "", ""))
}

// F1: Link is the href of the first link that has no rel, or that of an alternate.
func TestAtomLink(t *testing.T) {
	one := func(s, want string) {
		t.Helper()
		tells(t, atom("<entry><id>1</id>"+s+"</entry>"), item("1", "", want))
	}
	one("<link href='a'/><link href='b'/>", "a")
	one("<link rel='alternate' href='a'/><link href='b'/>", "a")
	one("<link href='a'/><link rel='alternate' href='b'/>", "a")
	one("<link rel='self' href='a'/><link rel='edit' href='b'/><link href='c'/><link href='d'/>", "c")
	one("<link href='a' rel='self'/><link href='b' rel='alternate'/><link href='c'/>", "b")
	one("<link rel='self' href='a'/>", "")
	one("<link rel='' href='a'/>", "")
	one("<link rel='Alternate' href='a'/>", "")
	one("<link rel=' alternate' href='a'/>", "")
	one("<link rel='alternate ' href='a'/>", "")
	one("<link rel='alternates' href='a'/>", "")
	one("<link Rel='self' href='a'/>", "a")
	one("<link/><link href='a'/>", "")
	one("<link rel='alternate'/><link href='a'/>", "")
	one("<link rel='self'/><link href='a'/>", "a")
	one("<link href=''/><link href='a'/>", "")
	one("<link HREF='a'/>", "")
	one("<link>a</link>", "")
	one("<Link href='a'/>", "")
	one("<a><link href='a'/></a>", "")
	one("<link href=' a \n\t\r b '/>", "a b")
	one("<link href='a&amp;&#32;&#32;b&lt;'/>", "a& b<")
	one("<link href='"+x(200)+"'/>", x(200))
	one("<link href='"+x(201)+"'/>", "")
	one("<link href='"+x(201)+"'/><link href='a'/>", "")
	one("<link href='  "+x(99)+"   "+x(100)+"  '/>", x(99)+" "+x(100))
}

// F1: the text of a child is that of the first one, squeezed, without that of its own children; one of more than 200 bytes is none.
func TestTexts(t *testing.T) {
	texts := []struct{ s, want string }{
		{"a", "a"}, {" a\r\n\tb  c ", "a b c"}, {"a&amp;&lt;&#65;", "a&<A"}, {"a<![CDATA[  <b> ]]>c", "a <b> c"}, {"a<!-- b -->c", "ac"}, {"a<x>no</x>b", "ab"}, {"a <x/> b", "a b"},
		{"\xff\x00\xc2\xa0é", "\xff\x00\xc2\xa0é"}, {"a\v\fb", "a\v\fb"},
		{x(199), x(199)}, {x(200), x(200)}, {x(201), ""}, {x(500), ""}, {" " + x(200) + "\n", x(200)}, {" " + x(201) + "\n", ""},
		{x(100) + "  " + x(99), x(100) + " " + x(99)}, {x(100) + "  " + x(100), ""}, {strings.Repeat("é", 100), strings.Repeat("é", 100)}, {strings.Repeat("é", 100) + "x", ""}, {strings.Repeat("&amp;", 200), strings.Repeat("&", 200)},
	}
	for _, c := range texts {
		tells(t, rss("<item><guid>1</guid><title>"+c.s+"</title><title>no</title></item>"), item("1", c.want, ""))
		tells(t, rss("<item><guid>1</guid><link>"+c.s+"</link><link>no</link></item>"), item("1", "", c.want))
		tells(t, atom("<entry><id>1</id><title>"+c.s+"</title><title>no</title></entry>"), item("1", c.want, ""))
		if c.want == "" {
			tells(t, rss("<item><guid>"+c.s+"</guid><guid>no</guid></item>"))
			tells(t, rss("<item><link>"+c.s+"</link><link>no</link></item>"))
			tells(t, atom("<entry><id>"+c.s+"</id><id>no</id></entry>"))
			continue
		}
		tells(t, rss("<item><guid>"+c.s+"</guid><guid>no</guid></item>"), item(c.want, "", ""))
		tells(t, rss("<item><link>"+c.s+"</link><link>no</link></item>"), item(c.want, "", c.want))
		tells(t, atom("<entry><id>"+c.s+"</id><id>no</id></entry>"), item(c.want, "", ""))
	}
}

// F1: an item whose ID an earlier one has is left out, even if that one has it of its link.
func TestTwice(t *testing.T) {
	tells(t, rss("<item><guid>1</guid><title>a</title></item><item><guid>2</guid></item><item><guid> 1 </guid><title>b</title></item><item><guid>1</guid></item><item><guid>3</guid></item>"),
		item("1", "a", ""), item("2", "", ""), item("3", "", ""))
	tells(t, rss("<item><link>1</link></item><item><guid>1</guid><link>2</link></item><item><link>2</link></item>"), item("1", "", "1"), item("2", "", "2"))
	tells(t, atom("<entry><id>1</id><title>a</title></entry><entry><id>1</id><title>b</title></entry><entry><id>I</id></entry><entry><id>i</id></entry>"),
		item("1", "a", ""), item("I", "", ""), item("i", "", ""))
}

// F1: at most the first 100 are told: those that are left out do not count.
func TestMost(t *testing.T) {
	var want []api.Item
	var items, entries strings.Builder
	for i := range api.MaxItems + 2 {
		id := strconv.Itoa(i)
		want = append(want, item(id, "", ""))
		items.WriteString("<item><guid>" + id + "</guid></item>")
		entries.WriteString("<entry><id>" + id + "</id></entry>")
		if i == api.MaxItems-2 {
			tells(t, rss(items.String()), want...)
		}
		if i == api.MaxItems-1 {
			tells(t, rss(items.String()), want...)
			tells(t, atom(entries.String()), want...)
		}
		for range i % 3 {
			items.WriteString("<item/><item><guid>0</guid></item>")
			entries.WriteString("<entry/><entry><id>0</id></entry>")
		}
	}
	tells(t, rss(items.String()), want[:api.MaxItems]...)
	tells(t, atom(entries.String()), want[:api.MaxItems]...)
}

// F1: Items answers of any element: one that no document could have, too.
func TestAnyElement(t *testing.T) {
	one := with(node("entry", leaf("id", "1"), with(node("link"), "rel", "alternate", "href", x(200))), "rel", "self")
	holds(t, node("feed", one), item("1", "", x(200)))
	holds(t, tree.Node{Name: "feed", Text: "words", Kids: []tree.Node{one}}, item("1", "", x(200)))
	holds(t, node("rss", node("channel", node("item", leaf("guid", x(20000)), leaf("link", "a")))), item("a", "", "a"))
	holds(t, node("rss", leaf("channel", "words")))
	holds(t, node("feed", node("entry", with(node("link"), "href", "a", "href", "b"), leaf("id", "<&>"))), item("<&>", "", "a"))
	lacks(t, node("channel", node("item", leaf("guid", "1"))))
	deep := leaf("guid", "1")
	for range 1000 {
		deep = node("item", deep)
	}
	holds(t, node("rss", node("channel", deep)))
	many := slices.Repeat([]tree.Node{node("item", leaf("guid", "1"))}, 20000)
	holds(t, node("rss", tree.Node{Name: "channel", Kids: many}), item("1", "", ""))
}

// F1: an item is valid if its ID has 1 to 200 bytes, its Title and Link have at most 200, and none has needless space.
func TestRight(t *testing.T) {
	texts := []struct {
		s  string
		ok bool
	}{
		{"", true}, {"a", true}, {"a b", true}, {"a b c", true}, {x(199), true}, {x(200), true}, {"\xff\x00", true}, {"\u00a0", true}, {"a\v\fb", true}, {strings.Repeat("é", 100), true},
		{" ", false}, {" a", false}, {"a ", false}, {"a  b", false}, {"a\tb", false}, {"a\nb", false}, {"a\rb", false}, {"\n", false}, {x(201), false}, {x(199) + " ", false}, {x(200) + " ", false},
		{strings.Repeat("é", 100) + "x", false}, {x(100000), false}, {strings.Repeat(" ", 100000), false},
	}
	for _, c := range texts {
		for _, y := range []api.Item{item("1", c.s, ""), item("1", "", c.s), item("1", c.s, c.s), item(x(200), c.s, x(200))} {
			if feed.Right(y) != c.ok {
				t.Errorf("%.300q", y)
			}
		}
		if feed.Right(item(c.s, "", "")) != (c.ok && c.s != "") {
			t.Errorf("%.300q", c.s)
		}
	}
	if feed.Right(api.Item{}) || feed.Right(item("", "a", "b")) {
		t.Error("no ID")
	}
}

// P3: what Items reads stays as it is, and what it answers is new each time.
func TestApart(t *testing.T) {
	n := node("feed", node("entry", leaf("id", "1")), node("entry", leaf("id", "2")), node("entry", leaf("id", "3")))
	n.Kids = n.Kids[:2]
	holds(t, n, item("1", "", ""), item("2", "", ""))
	l, _ := feed.Items(n)
	l[0] = item("4", "", "")
	l = append(l[:1], item("5", "", ""))
	holds(t, n, item("1", "", ""), item("2", "", ""))
	n.Kids[0].Kids[0].Text = "6"
	if l[0].ID != "4" || l[1].ID != "5" || n.Kids[:3][2].Kids[0].Text != "3" {
		t.Error(l, n)
	}
	holds(t, n, item("6", "", ""), item("2", "", ""))
}
