package rlog_test

import (
	"math"
	"slices"
	"testing"

	"kiosk/api"
	"kiosk/rlog"
)

func matches(t *testing.T, g *rlog.Log, index, term, fixed int, l []api.Entry, n, first int, ok bool) {
	t.Helper()
	if a, b, c := g.Match(index, term, fixed, l); a != n || b != first || c != ok {
		t.Errorf("Match(%d, %d, %d, %d entries): %d %d %v, not %d %d %v", index, term, fixed, len(l), a, b, c, n, first, ok)
	}
}

// fits is a Match on a log like five that answers true, after which the log has these terms from 6 on.
func fits(t *testing.T, index, term, fixed int, l []api.Entry, first int, terms ...int) {
	t.Helper()
	g := five()
	matches(t, g, index, term, fixed, l, index+len(l), first, true)
	holds(t, "fits", g, five().Base(), run(6, terms...))
	matches(t, g, index, term, fixed, l, index+len(l), 0, true) // G5: the second time nothing changes
	holds(t, "fits again", g, five().Base(), run(6, terms...))
}

// fails is a Match on a log like five that answers false, with a hint, and changes nothing.
func fails(t *testing.T, index, term, fixed int, l []api.Entry, hint int) {
	t.Helper()
	g := five()
	matches(t, g, index, term, fixed, l, hint, 0, false)
	holds(t, "fails", g, five().Base(), run(6, 2, 2, 3, 5, 5))
}

// G3: an Index behind the last one is answered by the last one, whatever the Term.
func TestMatchBehind(t *testing.T) {
	for _, index := range []int{11, 12, 1 << 40, math.MaxInt - 1, math.MaxInt} {
		for _, fixed := range []int{5, 8, 10} {
			fails(t, index, 5, fixed, nil, 10)
			fails(t, index, 0, fixed, run(11, 5, 5), 10)
		}
	}
	g := rlog.New(api.Base{Index: 5, Term: 2}, nil)
	matches(t, g, 6, 2, 5, run(7, 2), 5, 0, false)
	holds(t, "behind a base", g, api.Base{Index: 5, Term: 2}, nil)
}

// G3: another Term is answered by the Index ahead; but up to the fixed Index Terms aren't compared.
func TestMatchTerm(t *testing.T) {
	terms := map[int]int{6: 2, 7: 2, 8: 3, 9: 5, 10: 5}
	for index, right := range terms {
		for term := range 7 {
			for fixed := 5; fixed <= 10; fixed++ {
				if term == right || index <= fixed {
					fits(t, index, term, fixed, nil, 0, 2, 2, 3, 5, 5)
				} else {
					fails(t, index, term, fixed, nil, index-1)
					fails(t, index, term, fixed, run(index+1, 9), index-1)
				}
			}
		}
	}
}

// G3: entries that the log has, with these Terms, change nothing; fewer of them cut nothing off.
func TestMatchSame(t *testing.T) {
	l := run(6, 2, 2, 3, 5, 5)
	terms := []int{2, 2, 2, 3, 5, 5}
	for from := range 6 {
		for to := from; to <= 5; to++ {
			for fixed := 5; fixed <= 10; fixed++ {
				fits(t, 5+from, terms[from], fixed, l[from:to], 0, 2, 2, 3, 5, 5)
			}
		}
	}
}

// G3: the first entry that the log has with another Term, and all behind it, give way.
func TestMatchOther(t *testing.T) {
	fits(t, 5, 2, 5, run(6, 9), 6, 9)
	fits(t, 5, 2, 5, run(6, 2, 9), 7, 2, 9)
	fits(t, 5, 2, 5, run(6, 2, 9, 9, 9, 9, 9, 9), 7, 2, 9, 9, 9, 9, 9, 9)
	fits(t, 6, 2, 5, run(7, 2, 3, 6), 9, 2, 2, 3, 6)
	fits(t, 8, 3, 8, run(9, 6), 9, 2, 2, 3, 6)
	fits(t, 9, 5, 5, run(10, 6), 10, 2, 2, 3, 5, 6)
	fits(t, 7, 2, 5, run(8, 1), 8, 2, 2, 1)                   // a lesser Term, too
	fits(t, 7, 2, 5, run(8, 9, 5, 5), 8, 2, 2, 9, 5, 5)       // those behind it that were there are there again
	fits(t, 7, 2, 5, run(8, 9, 5), 8, 2, 2, 9, 5)             // or are gone
	fits(t, 5, 2, 5, run(6, 0, 0), 6, 0, 0)                   // Term 0
	fits(t, 5, 2, 5, run(6, 2, 2, 3, -1), 9, 2, 2, 3, -1)     // and less
	fits(t, 5, 2, 5, run(6, 3, 2, 3, 5), 6, 3, 2, 3, 5)       // only the first of them differs
	fits(t, 5, 2, 5, run(6, 3, 3, 4, 6, 6), 6, 3, 3, 4, 6, 6) // all of them do
}

// G3: entries that the log doesn't have are appended.
func TestMatchMore(t *testing.T) {
	fits(t, 10, 5, 5, run(11, 5), 11, 2, 2, 3, 5, 5, 5)
	fits(t, 10, 5, 10, run(11, 5, 6), 11, 2, 2, 3, 5, 5, 5, 6)
	fits(t, 10, 0, 10, run(11, 1), 11, 2, 2, 3, 5, 5, 1)
	fits(t, 8, 3, 5, run(9, 5, 5, 0), 11, 2, 2, 3, 5, 5, 0)
	fits(t, 5, 2, 5, run(6, 2, 2, 3, 5, 5, 7, 8), 11, 2, 2, 3, 5, 5, 7, 8)
	g := rlog.New(api.Base{Index: 5, Term: 2}, nil)
	matches(t, g, 5, 2, 5, run(6, 4, 4), 7, 6, true)
	holds(t, "behind a base", g, api.Base{Index: 5, Term: 2}, run(6, 4, 4))
}

// G3: entries up to the fixed Index are neither compared nor changed, whatever is told of them.
func TestMatchFixed(t *testing.T) {
	fits(t, 5, 0, 5, nil, 0, 2, 2, 3, 5, 5)
	fits(t, 5, 9, 5, run(6, 2), 0, 2, 2, 3, 5, 5)
	fits(t, 5, 2, 6, run(6, 9), 0, 2, 2, 3, 5, 5)
	fits(t, 5, 2, 6, run(6, 9, 9), 7, 2, 9)
	fits(t, 5, 2, 7, run(6, 9, 9), 0, 2, 2, 3, 5, 5)
	fits(t, 5, 2, 8, run(6, 9, 9, 9, 5, 5), 0, 2, 2, 3, 5, 5)
	fits(t, 5, 2, 8, run(6, 9, 9, 9, 5, 6, 6), 10, 2, 2, 3, 5, 6, 6)
	fits(t, 5, 2, 10, run(6, 9, 9, 9, 9, 9), 0, 2, 2, 3, 5, 5)
	fits(t, 5, 2, 10, run(6, 9, 9, 9, 9, 9, 9), 11, 2, 2, 3, 5, 5, 9)
	fits(t, 8, 9, 8, run(9, 7), 9, 2, 2, 3, 7)
	fits(t, 8, 9, 9, run(9, 7), 0, 2, 2, 3, 5, 5)
	fails(t, 8, 9, 7, run(9, 7), 7)
}

// G3: an Index ahead of the base: what of the entries lies up to the fixed Index is passed over.
func TestMatchAhead(t *testing.T) {
	fits(t, 4, 9, 5, nil, 0, 2, 2, 3, 5, 5)
	fits(t, 0, 9, 5, run(1, 9, 9, 9), 0, 2, 2, 3, 5, 5)
	fits(t, 0, 9, 5, run(1, 9, 9, 9, 9, 9), 0, 2, 2, 3, 5, 5)
	fits(t, 0, 9, 5, run(1, 9, 9, 9, 9, 9, 2, 2), 0, 2, 2, 3, 5, 5)
	fits(t, 0, 9, 5, run(1, 9, 9, 9, 9, 9, 2, 7), 7, 2, 7)
	fits(t, 0, 9, 6, run(1, 9, 9, 9, 9, 9, 9, 7), 7, 2, 7)
	fits(t, -3, 9, 5, run(-2, 9, 9, 9, 9, 9, 9, 9, 9, 3), 6, 3)
	for _, index := range []int{-1, -1 << 40, math.MinInt + 1, math.MinInt} {
		fits(t, index, 2, 5, nil, 0, 2, 2, 3, 5, 5)
		fits(t, index, 2, 8, run(0, 9), 0, 2, 2, 3, 5, 5)
	}
}

// G3: a fixed Index that can't be counts as that of the base, or as the last one.
func TestMatchWrongFixed(t *testing.T) {
	for _, fixed := range []int{4, 0, -1, math.MinInt} {
		fits(t, 5, 9, fixed, run(6, 2, 9), 7, 2, 9)
		fits(t, 3, 9, fixed, run(4, 9, 9, 9), 6, 9)
		fails(t, 6, 9, fixed, nil, 5)
	}
	for _, fixed := range []int{11, 12, 1 << 40, math.MaxInt} {
		fits(t, 10, 9, fixed, run(11, 6, 6), 11, 2, 2, 3, 5, 5, 6, 6)
		fits(t, 7, 9, fixed, run(8, 9, 9, 9, 6), 11, 2, 2, 3, 5, 5, 6)
		fits(t, 7, 9, fixed, run(8, 9, 9, 9), 0, 2, 2, 3, 5, 5)
		fails(t, 11, 5, fixed, nil, 10)
	}
}

// G3: the Index of an entry follows from its place, regardless of its own.
func TestMatchPlaces(t *testing.T) {
	for _, wrong := range []int{math.MinInt, -1, 0, 6, 8, 9, 70, math.MaxInt} {
		l := run(8, 3, 6, 6)
		for k := range l {
			l[k].Index = wrong
		}
		fits(t, 7, 2, 5, l, 9, 2, 2, 3, 6, 6)
		fits(t, 7, 2, 5, l[:1], 0, 2, 2, 3, 5, 5)
	}
}

// G3: only Terms are compared; what is taken over is taken as it is.
func TestMatchData(t *testing.T) {
	g := five()
	l := []api.Entry{{Term: 2, Kind: 1, Data: "other"}, {Term: 3, Kind: 3}, {Term: 4, Kind: 55, Data: "new\x00"}, {Term: 4}}
	matches(t, g, 6, 2, 5, l, 10, 9, true)
	want := append(run(6, 2, 2, 3), api.Entry{Index: 9, Term: 4, Kind: 55, Data: "new\x00"}, api.Entry{Index: 10, Term: 4})
	holds(t, "data", g, five().Base(), want)
}

// P3: the entries that are handed in stay, aren't kept, and those behind their end aren't read.
func TestMatchKeeps(t *testing.T) {
	g, l := five(), run(70, 3, 6, 6)
	matches(t, g, 7, 2, 5, l[:2], 9, 9, true)
	if !slices.Equal(l, run(70, 3, 6, 6)) {
		t.Error(l)
	}
	l[1].Data = "mine"
	want := append(run(6, 2, 2, 3), api.Entry{Index: 9, Term: 6, Kind: api.Command, Data: "71.6"})
	holds(t, "kept", g, five().Base(), want)
}
