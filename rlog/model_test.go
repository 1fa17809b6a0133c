package rlog_test

import (
	"fmt"
	"math"
	"math/rand"
	"slices"
	"testing"

	"kiosk/api"
	"kiosk/msg"
	"kiosk/rlog"
)

// model is a log by the words of the chapter: its entries are found by their Index, one by one.
type model struct {
	base    api.Base
	entries []api.Entry
}

func (m *model) last() int {
	if len(m.entries) == 0 {
		return m.base.Index
	}
	return m.entries[len(m.entries)-1].Index
}

func (m *model) term(i int) (int, bool) {
	if i == m.base.Index {
		return m.base.Term, true
	}
	for _, e := range m.entries {
		if e.Index == i {
			return e.Term, true
		}
	}
	return 0, false
}

// piece are the entries with an Index from low to high.
func (m *model) piece(low, high int) []api.Entry {
	var l []api.Entry
	for _, e := range m.entries {
		if low <= e.Index && e.Index <= high {
			l = append(l, e)
		}
	}
	return l
}

func (m *model) slice(from, most int) []api.Entry {
	if from <= m.base.Index || most < 1 {
		return nil
	}
	l := m.piece(from, math.MaxInt)
	return l[:min(most, len(l))]
}

// settings are all Data that set voters: the encodings of the subsets of 1 to 9.
var settings = func() map[string][]int {
	known := map[string][]int{}
	for bits := range 1 << 9 {
		var l []int
		for n := range 9 {
			if bits>>n&1 == 1 {
				l = append(l, n+1)
			}
		}
		known[msg.Voters(l)] = l
	}
	return known
}()

func (m *model) voters(i int) []int {
	l := m.base.Voters
	for _, e := range m.piece(math.MinInt, i) {
		if v, ok := settings[e.Data]; ok && e.Kind == 3 {
			l = v
		}
	}
	return l
}

func (m *model) match(index, term, fixed int, l []api.Entry) (int, int, bool) {
	if index > m.last() {
		return m.last(), 0, false
	}
	if t, _ := m.term(index); index > fixed && t != term {
		return index - 1, 0, false
	}
	for k, e := range l {
		i := index + 1 + k
		if t, ok := m.term(i); i <= fixed || ok && t == e.Term {
			continue
		}
		m.entries = m.piece(math.MinInt, i-1)
		for _, e := range l[k:] {
			e.Index = m.last() + 1
			m.entries = append(m.entries, e)
		}
		return index + len(l), i, true
	}
	return index + len(l), 0, true
}

func (m *model) compact(i int, data string) api.Errno {
	if i <= m.base.Index || i > m.last() {
		return api.ErrRange
	}
	t, _ := m.term(i)
	m.base = api.Base{Index: i, Term: t, Voters: m.voters(i), Data: data}
	m.entries = m.piece(i+1, math.MaxInt)
	return api.OK
}

func (m *model) restore(b api.Base) bool {
	t, ok := m.term(b.Index)
	ok = ok && t == b.Term
	m.entries = m.piece(b.Index+1, math.MaxInt)
	if !ok {
		m.entries = nil
	}
	m.base = b
	return ok
}

// play is a log beside its model, and what is drawn for their next calls.
type play struct {
	r *rand.Rand
	g *rlog.Log
	m *model
}

func (p *play) index() int { return p.m.base.Index + p.r.Intn(len(p.m.entries)+5) - 2 }

func (p *play) fixed() int { return p.m.base.Index + p.r.Intn(len(p.m.entries)+1) }

// term is most often the right one.
func (p *play) term(i int) int {
	if t, ok := p.m.term(i); ok && p.r.Intn(6) > 0 {
		return t
	}
	return p.r.Intn(5)
}

func (p *play) payload() (int, string) {
	if kind := 1 + p.r.Intn(3); kind < 3 || p.r.Intn(4) == 0 {
		return kind, fmt.Sprint(p.r.Intn(1000))
	}
	var l []int
	for n := range 9 {
		if p.r.Intn(3) == 0 {
			l = append(l, n+1-p.r.Intn(2)*p.r.Intn(2))
		}
	}
	return 3, msg.Voters(l)
}

// entries are such as a message brings behind an Index; most of them are those that the log has.
func (p *play) entries(index int) []api.Entry {
	l := make([]api.Entry, p.r.Intn(9))
	for k := range l {
		l[k] = api.Entry{Index: p.r.Intn(20), Term: p.term(index + 1 + k)}
		l[k].Kind, l[k].Data = p.payload()
	}
	return l
}

// step does the same to both, and answers what was done and what they said.
func (p *play) step() (string, string, string) {
	switch p.r.Intn(9) {
	case 0, 1:
		term := p.r.Intn(5)
		kind, data := p.payload()
		want := api.Entry{Index: p.m.last() + 1, Term: term, Kind: kind, Data: data}
		p.m.entries = append(p.m.entries, want)
		return "Add", fmt.Sprint(p.g.Add(term, kind, data)), fmt.Sprint(want)
	case 2, 3, 4, 5, 6:
		index, fixed := p.index(), p.fixed()
		term, l := p.term(index), p.entries(index)
		a, b, c := p.g.Match(index, term, fixed, l)
		if c {
			p.matched(index, fixed, l)
		}
		x, y, z := p.m.match(index, term, fixed, l)
		return fmt.Sprint("Match ", index, term, fixed, l), fmt.Sprint(a, b, c), fmt.Sprint(x, y, z)
	case 7:
		i := p.index()
		return fmt.Sprint("Compact ", i), fmt.Sprint(p.g.Compact(i, "c")), fmt.Sprint(p.m.compact(i, "c"))
	}
	i := max(p.index(), 0)
	b := api.Base{Index: i, Term: p.term(i), Voters: []int{i%7 + 1}, Data: "r"}
	return fmt.Sprint("Restore ", b), fmt.Sprint(p.g.Restore(b)), fmt.Sprint(p.m.restore(b))
}

// matched is what follows from a Match that answered true: the log has the entries behind the fixed Index, and is done with them.
func (p *play) matched(index, fixed int, l []api.Entry) {
	before := all(p.g)
	for k, e := range l {
		i := index + 1 + k
		if t, ok := p.g.Term(i); i > fixed && (!ok || t != e.Term) {
			panic(fmt.Sprint("entry ", i, " is lacking"))
		}
	}
	if n, first, ok := p.g.Match(index, p.atTerm(index), fixed, l); n != index+len(l) || first != 0 || !ok || !slices.Equal(before, all(p.g)) {
		panic("a second Match changes the log")
	}
}

func (p *play) atTerm(i int) int {
	t, _ := p.g.Term(i)
	return t
}

// same asks both for all that can be asked.
func (p *play) same(t *testing.T) {
	holds(t, "same", p.g, p.m.base, p.m.entries)
	for i := p.m.base.Index - 2; i <= p.m.last()+2; i++ {
		if a, b := p.g.Voters(i), p.m.voters(i); !slices.Equal(a, b) {
			t.Errorf("Voters(%d): %v, not %v", i, a, b)
		}
		most := p.r.Intn(8) - 1
		if a, b := p.g.Slice(i, most), p.m.slice(i, most); !slices.Equal(a, b) {
			t.Errorf("Slice(%d, %d): %v, not %v", i, most, a, b)
		}
		term := p.r.Intn(6)
		last, _ := p.m.term(p.m.last())
		if want := term > last || term == last && i >= p.m.last(); p.g.Newer(i, term) != want {
			t.Errorf("Newer(%d, %d): not %v", i, term, want)
		}
	}
}

// G1 to G5: random calls, against the words of the chapter.
func TestModel(t *testing.T) {
	r := rand.New(rand.NewSource(1))
	for range 400 {
		b := api.Base{Index: r.Intn(6), Term: r.Intn(3), Voters: []int{1, 2, 3}}
		p := &play{r, rlog.New(b, nil), &model{base: b}}
		var done []string
		for range 60 {
			what, got, want := p.step()
			done = append(done, what+": "+got)
			if got != want {
				t.Errorf("%s, not %s", got, want)
			}
			if p.same(t); t.Failed() {
				t.Fatal(b, done)
			}
		}
	}
}

// G5: what Compact doesn't change: Last, and Term, the entries and Voters from its Index on.
func TestCompactLeaves(t *testing.T) {
	r := rand.New(rand.NewSource(2))
	for range 2000 {
		p := &play{r, voting(), &model{base: voting().Base(), entries: all(voting())}}
		for range 10 {
			p.step()
		}
		i := p.index()
		if p.g.Base().Index >= i || i > p.g.Last() {
			continue
		}
		old := rlog.New(p.g.Base(), all(p.g))
		if e := p.g.Compact(i, ""); e != api.OK || p.g.Last() != old.Last() || !slices.Equal(p.g.Slice(i+1, 99), old.Slice(i+1, 99)) {
			t.Fatal(i, e, all(p.g), all(old))
		}
		for n := i; n <= old.Last()+1; n++ {
			a, x := p.g.Term(n)
			b, y := old.Term(n)
			if a != b || x != y || !slices.Equal(p.g.Voters(n), old.Voters(n)) {
				t.Fatal(i, n, all(old))
			}
		}
	}
}
