package feed_test

import (
	"testing"

	"kiosk/api"
	"kiosk/feed"
)

// F2: RSS writes the title, and guid, title and link of each item.
func TestRSS(t *testing.T) {
	for _, c := range []struct {
		title string
		l     []api.Item
		want  string
	}{
		{"", nil, `<rss version="2.0"><channel><title></title></channel></rss>`},
		{"t", nil, `<rss version="2.0"><channel><title>t</title></channel></rss>`},
		{"t", []api.Item{item("1", "a", "b")}, `<rss version="2.0"><channel><title>t</title><item><guid>1</guid><title>a</title><link>b</link></item></channel></rss>`},
		{"t", []api.Item{{}, item("2", "", "")}, `<rss version="2.0"><channel><title>t</title><item><guid></guid><title></title><link></link></item><item><guid>2</guid><title></title><link></link></item></channel></rss>`},
		{`&<>"'`, []api.Item{item(`<1>`, `"a"`, `b&'`)}, `<rss version="2.0"><channel><title>&amp;&lt;&gt;&quot;&apos;</title><item><guid>&lt;1&gt;</guid><title>&quot;a&quot;</title><link>b&amp;&apos;</link></item></channel></rss>`},
		{" \n\xff", []api.Item{item(" ", "a  b", "\x00")}, "<rss version=\"2.0\"><channel><title> \n\xff</title><item><guid> </guid><title>a  b</title><link>\x00</link></item></channel></rss>"},
	} {
		if s := feed.RSS(c.title, c.l); s != c.want {
			t.Errorf("%q, not %q", s, c.want)
		}
	}
}

// F2: Atom writes the title, and id, title and link of each item, the last one as an attribute.
func TestAtom(t *testing.T) {
	for _, c := range []struct {
		title string
		l     []api.Item
		want  string
	}{
		{"", nil, `<feed xmlns="http://www.w3.org/2005/Atom"><title></title></feed>`},
		{"t", nil, `<feed xmlns="http://www.w3.org/2005/Atom"><title>t</title></feed>`},
		{"t", []api.Item{item("1", "a", "b")}, `<feed xmlns="http://www.w3.org/2005/Atom"><title>t</title><entry><id>1</id><title>a</title><link href="b"/></entry></feed>`},
		{"t", []api.Item{{}, item("2", "", "")}, `<feed xmlns="http://www.w3.org/2005/Atom"><title>t</title><entry><id></id><title></title><link href=""/></entry><entry><id>2</id><title></title><link href=""/></entry></feed>`},
		{`&<>"'`, []api.Item{item(`<1>`, `"a"`, `b&'"`)}, `<feed xmlns="http://www.w3.org/2005/Atom"><title>&amp;&lt;&gt;&quot;&apos;</title><entry><id>&lt;1&gt;</id><title>&quot;a&quot;</title><link href="b&amp;&apos;&quot;"/></entry></feed>`},
		{" \n\xff", []api.Item{item(" ", "a  b", "\x00")}, "<feed xmlns=\"http://www.w3.org/2005/Atom\"><title> \n\xff</title><entry><id> </id><title>a  b</title><link href=\"\x00\"/></entry></feed>"},
	} {
		if s := feed.Atom(c.title, c.l); s != c.want {
			t.Errorf("%q, not %q", s, c.want)
		}
	}
}

// F2: all items are written, however many, valid or not; what is behind the list is not (P3).
func TestWriteAny(t *testing.T) {
	var l []api.Item
	for range 3000 {
		l = append(l, item("1", x(201), " "))
	}
	one := len(feed.RSS("", l[:1])) - len(feed.RSS("", nil))
	if s := feed.RSS("", l); len(s) != len(feed.RSS("", nil))+3000*one {
		t.Error(len(s))
	}
	one = len(feed.Atom("", l[:1])) - len(feed.Atom("", nil))
	if s := feed.Atom("", l); len(s) != len(feed.Atom("", nil))+3000*one {
		t.Error(len(s))
	}
	for _, y := range l {
		if y != item("1", x(201), " ") {
			t.Fatal(y)
		}
	}
	// The document is too long to be read: that is told, nothing else.
	rejects(t, feed.RSS("", l), api.ErrLong)
	rejects(t, feed.Atom("", l), api.ErrLong)
}
