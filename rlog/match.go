package rlog

import (
	"slices"

	"kiosk/api"
)

// Match puts entries behind one: what matches, or a hint; from where on there are others now.
func (g *Log) Match(index, term, fixed int, l []api.Entry) (int, int, bool) {
	last := g.Last()
	if index > last {
		return last, 0, false
	}
	fixed = min(max(fixed, g.base.Index), last)
	if index > fixed && !g.has(index, term) {
		return index - 1, 0, false
	}
	return index + len(l), g.replace(numbered(index+1, l), match{g, fixed}.lacks), true
}

func (g *Log) has(index, term int) bool {
	t, ok := g.Term(index)
	return ok && t == term
}

// match is a log whose entries up to a fixed Index stay as they are.
type match struct {
	log   *Log
	fixed int
}

// lacks tells whether an entry is one that the log has to take over.
func (m match) lacks(e api.Entry) bool { return e.Index > m.fixed && !m.log.has(e.Index, e.Term) }

// numbered are copies of entries whose Indexes rise from the one that is given.
func numbered(first int, l []api.Entry) []api.Entry {
	l = slices.Clone(l)
	for k := range l {
		l[k].Index = first + k
	}
	return l
}

// replace puts the entries, from the first on that is lacking, in the place of those that the log has from there on.
// It answers the Index of that one, or 0. If none is lacking, nothing is cut off: the entries may be from an old message, which tells of fewer.
func (g *Log) replace(l []api.Entry, lacks func(api.Entry) bool) int {
	k := slices.IndexFunc(l, lacks)
	if k < 0 {
		return 0
	}
	first := l[k].Index
	g.entries = slices.Replace(g.entries, int(g.steps(first)-1), len(g.entries), l[k:]...)
	return first
}
