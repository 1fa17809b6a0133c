package feed_test

import (
	"slices"
	"strings"
	"testing"

	"kiosk/api"
	"kiosk/feed"
	"kiosk/tree"
	"kiosk/xml"
)

// item makes one of its ID, Title and Link.
func item(id, title, link string) api.Item { return api.Item{ID: id, Title: title, Link: link} }

// rss and atom lay a document around items or entries.
func rss(s string) string  { return "<rss><channel>" + s + "</channel></rss>" }
func atom(s string) string { return "<feed>" + s + "</feed>" }

// x is a text of n bytes.
func x(n int) string { return strings.Repeat("x", n) }

// tells is for a document of these items: Extract and Items answer the same.
func tells(t *testing.T, s string, want ...api.Item) {
	t.Helper()
	if l, e := feed.Extract(s); e != api.OK || !slices.Equal(l, want) {
		t.Errorf("%.300q: %.300q %v, not %.300q", s, l, e, want)
	}
	n, e := tree.Parse(s)
	if e != api.OK {
		t.Fatalf("%.300q: %v", s, e)
	}
	holds(t, n, want...)
}

// holds is for an element of these items.
func holds(t *testing.T, n tree.Node, want ...api.Item) {
	t.Helper()
	if l, ok := feed.Items(n); !ok || !slices.Equal(l, want) {
		t.Errorf("%.300v: %.300q %v, not %.300q", n, l, ok, want)
	}
}

// rejects is for a document of no items: none is told beside the error (P2).
func rejects(t *testing.T, s string, want api.Errno) {
	t.Helper()
	if l, e := feed.Extract(s); e != want || len(l) != 0 {
		t.Errorf("%.300q: %.300q %v, not %v", s, l, e, want)
	}
}

// lacks is for an element that is neither of the two.
func lacks(t *testing.T, n tree.Node) {
	t.Helper()
	if l, ok := feed.Items(n); ok || len(l) != 0 {
		t.Errorf("%.300v: %.300q %v", n, l, ok)
	}
}

// node makes an element without attributes, and leaf one of a text alone.
func node(name string, kids ...tree.Node) tree.Node { return tree.Node{Name: name, Kids: kids} }
func leaf(name, text string) tree.Node              { return tree.Node{Name: name, Text: text} }

// with is n with attributes of names and values in turn.
func with(n tree.Node, l ...string) tree.Node {
	n.Attrs = nil
	for i := 0; i+1 < len(l); i += 2 {
		n.Attrs = append(n.Attrs, xml.Attr{Name: l[i], Value: l[i+1]})
	}
	return n
}
