package xml

import (
	"slices"
	"strings"
)

// closing reads what follows the </ of a tag.
func (r *reader) closing() bool {
	name, ok := r.name()
	r.space()
	if !ok || !r.past(">") {
		return false
	}
	r.tag(Token{Kind: Close, Name: name})
	return true
}

// opening reads what follows the < of a tag.
func (r *reader) opening() bool {
	name, ok := r.name()
	if !ok {
		return false
	}
	t := Token{Kind: Open, Name: name}
	for {
		spaced := r.space()
		switch {
		case r.past(">"):
			r.tag(t)
			return true
		case r.past("/>"):
			r.tag(t)
			r.tag(Token{Kind: Close, Name: name})
			return true
		}
		a, ok := r.attribute()
		if !spaced || !ok || has(t.Attrs, a.Name) {
			return false
		}
		t.Attrs = append(t.Attrs, a)
	}
}

func has(l []Attr, name string) bool {
	return slices.ContainsFunc(l, func(a Attr) bool { return a.Name == name })
}

func (r *reader) attribute() (Attr, bool) {
	name, ok := r.name()
	r.space()
	if !ok || !r.past("=") {
		return Attr{}, false
	}
	r.space()
	value, ok := r.value()
	return Attr{Name: name, Value: value}, ok
}

func (r *reader) value() (string, bool) {
	quote := `"`
	if !r.past(quote) {
		quote = "'"
		if !r.past(quote) {
			return "", false
		}
	}
	raw, ok := r.upTo(quote)
	if !ok || strings.Contains(raw, "<") {
		return "", false
	}
	return denoted(raw)
}

// name reads as much as a name may have: a copy, which doesn't hold the
// document in memory.
func (r *reader) name() (string, bool) {
	n := 0
	for n < len(r.rest) && (begins(r.rest[n]) || n > 0 && continues(r.rest[n])) {
		n++
	}
	name := strings.Clone(r.rest[:n])
	r.rest = r.rest[n:]
	return name, n > 0
}

func begins(c byte) bool {
	return 'A' <= c && c <= 'Z' || 'a' <= c && c <= 'z' || c == '_' || c == ':' || c >= 0x80
}

// continues is about those bytes only that a name may not begin with.
func continues(c byte) bool {
	return '0' <= c && c <= '9' || c == '.' || c == '-'
}

// space leaves all space behind that comes next, and tells whether there is any.
func (r *reader) space() bool {
	rest := strings.TrimLeft(r.rest, " \t\n\r")
	found := len(rest) < len(r.rest)
	r.rest = rest
	return found
}
