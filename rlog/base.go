package rlog

import (
	"slices"

	"kiosk/api"
)

// Compact moves the base up, Restore takes another one.
func (g *Log) Compact(i int, data string) api.Errno {
	if i <= g.base.Index || i > g.Last() {
		return api.ErrRange
	}
	term, _ := g.Term(i)
	g.rebase(api.Base{Index: i, Term: term, Voters: g.Voters(i), Data: data})
	return api.OK
}

func (g *Log) Restore(b api.Base) bool {
	known := g.has(b.Index, b.Term)
	if known {
		g.rebase(own(b))
	} else {
		*g = Log{base: own(b)}
	}
	return known
}

// rebase takes a base in the place of one of its own entries, or of its base, and leaves the entries behind that.
func (g *Log) rebase(b api.Base) {
	g.entries = slices.Delete(g.entries, 0, int(g.steps(b.Index)))
	g.base = b
}
