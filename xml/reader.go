package xml

import "strings"

// reader is on its way through a document.
type reader struct {
	rest   string          // of the document: what has not been read
	words  strings.Builder // the text behind the last tag
	tokens []Token
}

// past leaves s behind, if that comes next.
func (r *reader) past(s string) bool {
	rest, ok := strings.CutPrefix(r.rest, s)
	r.rest = rest
	return ok
}

// upTo leaves all behind up to the first end, and tells what stands ahead of it.
func (r *reader) upTo(end string) (string, bool) {
	between, rest, ok := strings.Cut(r.rest, end)
	r.rest = rest
	return between, ok
}

func (r *reader) doctype() bool {
	between, ok := r.upTo(">")
	return ok && !strings.ContainsAny(between, "[<")
}

func (r *reader) quoted() bool {
	between, ok := r.upTo("]]>")
	r.words.WriteString(between)
	return ok
}

func (r *reader) reference() bool {
	denoted, rest, ok := reference(r.rest)
	r.words.WriteString(denoted)
	r.rest = rest
	return ok
}

// plain reads the bytes that stand for themselves: there is at least one.
func (r *reader) plain() bool {
	n := strings.IndexAny(r.rest, "<&")
	if n < 0 {
		n = len(r.rest)
	}
	r.words.WriteString(r.rest[:n])
	r.rest = r.rest[n:]
	return true
}

// endWords makes one token of all text behind the last tag: comments and the
// like don't divide it.
func (r *reader) endWords() {
	if r.words.Len() > 0 {
		r.tokens = append(r.tokens, Token{Kind: Words, Text: r.words.String()})
		r.words.Reset()
	}
}

func (r *reader) tag(t Token) {
	r.endWords()
	r.tokens = append(r.tokens, t)
}
