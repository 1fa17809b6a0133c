package feed

import (
	"cmp"

	"kiosk/api"
	"kiosk/tree"
)

// collect reads items out of their elements, up to as many as a feed may have.
// An item that has no ID, or that of one ahead of it, could not be told from
// others later on: it is left out, and doesn't count.
func collect(l []tree.Node, read func(tree.Node) api.Item) []api.Item {
	var items []api.Item
	seen := make(map[string]struct{})
	for _, n := range l {
		if len(items) == api.MaxItems {
			break
		}
		x := read(n)
		if _, twice := seen[x.ID]; twice || x.ID == "" {
			continue
		}
		seen[x.ID] = struct{}{}
		items = append(items, x)
	}
	return items
}

func rssItem(n tree.Node) api.Item {
	text := texts(n.Kid)
	link := text("link")
	return api.Item{ID: cmp.Or(text("guid"), link), Title: text("title"), Link: link}
}

func atomItem(n tree.Node) api.Item {
	text := texts(n.Kid)
	return api.Item{ID: text("id"), Title: text("title"), Link: target(n.All)}
}

// texts asks an element, by its method Kid, for the texts of its children.
func texts(kid func(name string) (tree.Node, bool)) func(name string) string {
	return func(name string) string {
		// A child that isn't there is a zero Node: it has no text either.
		n, _ := kid(name)
		return short(n.Text)
	}
}

// target asks an element, by its method All, for where its links lead. Only
// the first link to the thing itself counts, even if it leads nowhere.
func target(all func(name string) []tree.Node) string {
	for _, n := range all("link") {
		attr := n.Attr
		if rel, ok := attr("rel"); ok && rel != "alternate" {
			continue
		}
		href, _ := attr("href")
		return short(href)
	}
	return ""
}

// short is a text as an item has it: one that is too long is none.
func short(s string) string {
	s = tree.Squeeze(s)
	if len(s) > api.MaxText {
		return ""
	}
	return s
}
