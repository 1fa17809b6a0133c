package tree

import (
	"slices"
	"strings"

	"kiosk/api"
	"kiosk/xml"
)

// element is a Node whose Close is still to come: its Words are joined there,
// all at once, as there may be very many of them.
type element struct {
	node  Node
	words []string
}

// builder holds the elements that are open, the innermost one at the end, and
// the first element when it has ended.
type builder struct {
	open  []element
	root  Node
	ended bool
}

func Build(l []xml.Token) (Node, api.Errno) {
	var b builder
	for _, t := range l {
		if e := b.take(t); e != api.OK {
			return Node{}, e
		}
	}
	if !b.ended {
		return Node{}, api.ErrForm
	}
	return b.root, api.OK
}

func (b *builder) take(t xml.Token) api.Errno {
	switch t.Kind {
	case xml.Open:
		return b.begin(t)
	case xml.Close:
		return b.end(t.Name)
	case xml.Words:
		return b.say(t.Text)
	}
	return api.ErrForm
}

func (b *builder) begin(t xml.Token) api.Errno {
	if len(b.open) == api.MaxDeep {
		return api.ErrDeep
	}
	if b.ended {
		return api.ErrForm
	}
	n := Node{Name: t.Name, Attrs: slices.Clone(t.Attrs)}
	b.open = append(b.open, element{node: n})
	return api.OK
}

func (b *builder) end(name string) api.Errno {
	last := len(b.open) - 1
	if last < 0 || b.open[last].node.Name != name {
		return api.ErrForm
	}
	n := b.open[last].node
	n.Text = strings.Join(b.open[last].words, "")
	b.open = b.open[:last]
	if last == 0 {
		b.root, b.ended = n, true
		return api.OK
	}
	outer := &b.open[last-1].node
	outer.Kids = append(outer.Kids, n)
	return api.OK
}

func (b *builder) say(text string) api.Errno {
	last := len(b.open) - 1
	if last >= 0 {
		b.open[last].words = append(b.open[last].words, text)
		return api.OK
	}
	if strings.Trim(text, space) != "" {
		return api.ErrForm
	}
	return api.OK
}
