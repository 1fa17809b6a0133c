package rlog_test

import (
	"math"
	"reflect"
	"slices"
	"strconv"
	"testing"

	"kiosk/api"
	"kiosk/rlog"
)

// entry is a command whose Data tell where it comes from.
func entry(index, term int) api.Entry {
	return api.Entry{Index: index, Term: term, Kind: api.Command, Data: strconv.Itoa(index) + "." + strconv.Itoa(term)}
}

// run is entries from an Index on, one for each term.
func run(first int, terms ...int) []api.Entry {
	var l []api.Entry
	for k, term := range terms {
		l = append(l, entry(first+k, term))
	}
	return l
}

// example is the log of the chapter's examples.
func example() *rlog.Log { return rlog.New(api.Base{}, run(1, 1, 1, 2)) }

// five is the base 5 of term 2, and the entries 6 to 10 of the terms 2, 2, 3, 5, 5.
func five() *rlog.Log {
	return rlog.New(api.Base{Index: 5, Term: 2, Voters: []int{1, 2, 3}, Data: "five"}, run(6, 2, 2, 3, 5, 5))
}

// all are the entries of a log.
func all(g *rlog.Log) []api.Entry { return g.Slice(g.Base().Index+1, math.MaxInt) }

// holds is for a log that has this base and these entries, by each of its calls.
func holds(t *testing.T, what string, g *rlog.Log, b api.Base, l []api.Entry) {
	t.Helper()
	if x := g.Base(); x.Index != b.Index || x.Term != b.Term || x.Data != b.Data || !slices.Equal(x.Voters, b.Voters) {
		t.Errorf("%s: Base: %v, not %v", what, x, b)
	}
	if n := g.Last(); n != b.Index+len(l) {
		t.Errorf("%s: Last: %d, not %d", what, n, b.Index+len(l))
	}
	if x := all(g); !slices.Equal(x, l) {
		t.Errorf("%s: entries: %v, not %v", what, x, l)
	}
	terms := map[int]int{b.Index: b.Term}
	for k, e := range l {
		terms[b.Index+1+k] = e.Term
		if e.Index != b.Index+1+k {
			t.Errorf("%s: entry %d: %v", what, k, e)
		}
	}
	for i := b.Index - 2; i <= b.Index+len(l)+2; i++ {
		want, there := terms[i]
		if term, ok := g.Term(i); term != want || ok != there {
			t.Errorf("%s: Term(%d): %d %v", what, i, term, ok)
		}
	}
}

// The examples of the chapter.
func TestExamples(t *testing.T) {
	g := example()
	if n := g.Last(); n != 3 {
		t.Error(n)
	}
	if term, ok := g.Term(3); term != 2 || !ok {
		t.Error(term, ok)
	}
	if l := g.Slice(2, 5); !slices.Equal(l, run(2, 1, 2)) {
		t.Error(l)
	}
	if a, b, c := g.Newer(2, 2), g.Newer(9, 1), g.Newer(3, 2); a || b || !c {
		t.Error(a, b, c)
	}
	matches(t, example(), 3, 2, 0, nil, 3, 0, true)
	matches(t, example(), 4, 2, 0, nil, 3, 0, false)
	matches(t, example(), 2, 2, 0, nil, 1, 0, false)
	matches(t, example(), 2, 1, 0, run(3, 3), 3, 3, true)
	if e := g.Compact(2, "x"); e != api.OK {
		t.Error(e)
	}
	if b := g.Base(); b.Index != 2 || b.Term != 1 || b.Data != "x" || len(b.Voters) != 0 {
		t.Error(b)
	}
	if term, ok := g.Term(1); term != 0 || ok {
		t.Error(term, ok)
	}
	if l := g.Slice(1, 9); len(l) != 0 {
		t.Error(l)
	}
}

// G1: New takes the entries that have the next Index, skips lesser ones, and ends at a greater one.
func TestNew(t *testing.T) {
	for what, c := range map[string]struct {
		l    []api.Entry
		want []api.Entry
	}{
		"none":             {nil, nil},
		"the next":         {run(6, 2), run(6, 2)},
		"some":             {run(6, 2, 1, 9), run(6, 2, 1, 9)},
		"lesser ahead":     {run(4, 2, 2, 2, 3), run(6, 2, 3)},
		"lesser alone":     {run(1, 2, 2, 2, 2, 2), nil},
		"the base again":   {[]api.Entry{entry(5, 9), entry(6, 2)}, run(6, 2)},
		"twice":            {[]api.Entry{entry(6, 2), entry(6, 3), entry(7, 2)}, run(6, 2, 2)},
		"back":             {[]api.Entry{entry(6, 2), entry(7, 2), entry(6, 4), entry(7, 4), entry(8, 4)}, run(6, 2, 2, 4)},
		"a gap":            {[]api.Entry{entry(6, 2), entry(8, 2), entry(7, 2)}, run(6, 2)},
		"a gap at once":    {run(7, 2, 2), nil},
		"gap, then right":  {[]api.Entry{entry(7, 2), entry(6, 2), entry(7, 2)}, nil},
		"far":              {[]api.Entry{entry(math.MaxInt, 2), entry(6, 2)}, nil},
		"far ahead":        {[]api.Entry{entry(math.MinInt, 2), entry(-1, 2), entry(0, 2), entry(6, 2)}, run(6, 2)},
		"any terms, kinds": {[]api.Entry{{Index: 6, Term: -7, Kind: 99, Data: "a"}, {Index: 7}}, []api.Entry{{Index: 6, Term: -7, Kind: 99, Data: "a"}, {Index: 7}}},
	} {
		b := api.Base{Index: 5, Term: 2, Voters: []int{1, 2, 3}, Data: "five"}
		holds(t, what, rlog.New(b, c.l), b, c.want)
	}
	holds(t, "nothing", rlog.New(api.Base{}, nil), api.Base{}, nil)
	holds(t, "entry 0", rlog.New(api.Base{}, run(0, 1, 1)), api.Base{}, run(1, 1))
}

// G1: a base stays as it was given, whatever is in it.
func TestNewBase(t *testing.T) {
	for _, b := range []api.Base{
		{}, {Index: 1}, {Term: -1}, {Index: 1 << 40, Term: 1 << 62, Voters: []int{3, 1, 1, -5, 99}, Data: "\x00\xff"}, {Voters: make([]int, 1000)},
	} {
		g := rlog.New(b, run(b.Index+1, 1, 2))
		holds(t, "base", g, b, run(b.Index+1, 1, 2))
		if l := g.Voters(b.Index + 1); !slices.Equal(l, b.Voters) {
			t.Error(l, b)
		}
	}
}

// far are Indexes that no log of these tests has.
func far() []int {
	return []int{math.MinInt, math.MinInt + 1, -1 << 40, -1, 1000, 1 << 40, 1 << 62, math.MaxInt - 1, math.MaxInt}
}

// G1: the Term of each entry and of the base, and of no others.
func TestTerm(t *testing.T) {
	g := five()
	for i, want := range map[int]int{5: 2, 6: 2, 7: 2, 8: 3, 9: 5, 10: 5} {
		if term, ok := g.Term(i); term != want || !ok {
			t.Error(i, term, ok)
		}
	}
	for _, i := range append(far(), 0, 3, 4, 11, 12) {
		if term, ok := g.Term(i); term != 0 || ok {
			t.Error(i, term, ok)
		}
	}
	g = rlog.New(api.Base{Index: 3}, []api.Entry{{Index: 4}, {Index: 5, Term: -9}}) // Terms that are 0, or less
	for i, want := range map[int]int{3: 0, 4: 0, 5: -9} {
		if term, ok := g.Term(i); term != want || !ok {
			t.Error(i, term, ok)
		}
	}
}

// G1: from where on, and how many at most.
func TestSlice(t *testing.T) {
	g, l := five(), run(6, 2, 2, 3, 5, 5)
	for from := 6; from <= 10; from++ {
		for most := 1; most <= 7; most++ {
			want := l[from-6 : min(from-6+most, 5)]
			if x := g.Slice(from, most); !slices.Equal(x, want) {
				t.Errorf("Slice(%d, %d): %v", from, most, x)
			}
		}
		for _, most := range []int{0, -1, -5, math.MinInt} {
			if x := g.Slice(from, most); len(x) != 0 {
				t.Errorf("Slice(%d, %d): %v", from, most, x)
			}
		}
		for _, most := range []int{1 << 40, math.MaxInt - 1, math.MaxInt} {
			if x := g.Slice(from, most); !slices.Equal(x, l[from-6:]) {
				t.Errorf("Slice(%d, %d): %v", from, most, x)
			}
		}
	}
	for _, from := range append(far(), 0, 4, 5, 11, 12) {
		for _, most := range []int{math.MinInt, -1, 0, 1, 5, 9, math.MaxInt} {
			if x := g.Slice(from, most); len(x) != 0 {
				t.Errorf("Slice(%d, %d): %v", from, most, x)
			}
		}
	}
}

// G2: Add appends behind what there is, whatever it is, and answers it.
func TestAdd(t *testing.T) {
	g, want := five(), run(6, 2, 2, 3, 5, 5)
	for _, e := range []api.Entry{
		{Index: 11, Term: 5, Kind: api.Noop},
		{Index: 12, Term: 6, Kind: api.Command, Data: "a\x00\xff"},
		{Index: 13, Term: 1, Kind: api.Config, Data: "none"},
		{Index: 14, Term: -1, Kind: 77, Data: "b"},
	} {
		if x := g.Add(e.Term, e.Kind, e.Data); x != e {
			t.Error(x, e)
		}
		want = append(want, e)
		holds(t, "Add", g, five().Base(), want)
	}
	g = rlog.New(api.Base{}, nil)
	if x := g.Add(1, api.Noop, ""); x != (api.Entry{Index: 1, Term: 1, Kind: api.Noop}) {
		t.Error(x)
	}
	g = rlog.New(api.Base{Index: 40, Term: 7}, nil)
	if x := g.Add(8, api.Command, "c"); x != (api.Entry{Index: 41, Term: 8, Kind: api.Command, Data: "c"}) {
		t.Error(x)
	}
}

// G2: a greater Term is newer, an equal one is if the Index isn't lesser, a lesser one never is.
func TestNewer(t *testing.T) {
	empty := rlog.New(api.Base{Index: 10, Term: 5}, nil)
	below := rlog.New(api.Base{Index: 9, Term: 8}, run(10, 5)) // the Term of the last entry counts, not the greatest one
	for _, g := range []*rlog.Log{five(), empty, below} {
		for index, want := range map[int]bool{math.MinInt: false, 0: false, 5: false, 9: false, 10: true, 11: true, math.MaxInt: true} {
			if g.Newer(index, 5) != want {
				t.Error(index)
			}
			for _, term := range []int{math.MinInt, -1, 0, 4} {
				if g.Newer(index, term) {
					t.Error(index, term)
				}
			}
			for _, term := range []int{6, 7, math.MaxInt} {
				if !g.Newer(index, term) {
					t.Error(index, term)
				}
			}
		}
	}
}

// P3: what is handed to New stays, isn't kept, and what lies behind its end isn't read.
func TestNewKeeps(t *testing.T) {
	l := run(1, 1, 1, 2, 3)
	v := []int{1, 2, 3, 4}
	b := api.Base{Voters: v[:3]}
	g := rlog.New(b, l[:3])
	g.Add(5, api.Command, "mine")
	g.Match(1, 1, 0, run(2, 7))
	if !slices.Equal(l, run(1, 1, 1, 2, 3)) || !slices.Equal(v, []int{1, 2, 3, 4}) {
		t.Error(l, v)
	}
	l[0], v[0] = entry(9, 9), 9
	holds(t, "kept", g, api.Base{Voters: []int{1, 2, 3}}, run(1, 1, 7))
}

// P3: answers are new: whatever is done to them, the log stays, and so do other answers.
func TestAnswersNew(t *testing.T) {
	g := five()
	b, c := g.Base(), g.Base()
	v, w := g.Voters(7), g.Voters(7)
	l, m := g.Slice(6, 3), g.Slice(6, 3)
	b.Voters[0], v[1], l[0] = 7, 7, entry(77, 7)
	_ = append(b.Voters, 7)
	_ = append(v, 7)
	_ = append(l, entry(77, 7))
	if !reflect.DeepEqual(c, five().Base()) || !slices.Equal(w, []int{1, 2, 3}) || !slices.Equal(m, run(6, 2, 2, 3)) {
		t.Error(c, w, m)
	}
	holds(t, "answers", g, five().Base(), run(6, 2, 2, 3, 5, 5))
	l = g.Slice(6, 5)
	g.Match(7, 2, 5, run(8, 9, 9))
	g.Compact(6, "")
	if !slices.Equal(l, run(6, 2, 2, 3, 5, 5)) {
		t.Error("an answer was changed by later calls:", l)
	}
}

// P1, P6: Indexes at the end of what an int can be wrap around, and no call panics.
func TestWrap(t *testing.T) {
	edges := append(far(), 0, 1, math.MaxInt-2, math.MinInt+2)
	for _, start := range []int{math.MaxInt, math.MaxInt - 1, math.MaxInt - 2, -1, -2, math.MinInt} {
		for _, i := range edges {
			for _, n := range edges {
				g := rlog.New(api.Base{Index: start, Term: 1}, run(start+1, 1, 2, 2))
				e := g.Add(3, api.Command, "")
				if g.Last() != e.Index {
					t.Error(g.Last(), e)
				}
				g.Term(i)
				g.Slice(i, n)
				g.Voters(i)
				g.Newer(i, n)
				g.Match(i, 2, n, run(0, 1, 2, 3))
				g.Compact(i, "")
				g.Add(3, api.Command, "")
				g.Restore(api.Base{Index: n, Term: 2})
				g.Add(3, api.Command, "")
			}
		}
	}
	g := rlog.New(api.Base{Index: math.MaxInt - 1}, nil)
	if a, b := g.Add(1, 1, ""), g.Add(1, 1, ""); a.Index != math.MaxInt || b.Index != math.MinInt || g.Last() != math.MinInt {
		t.Error(a, b)
	}
}

// A Log that New has not made is an empty one.
func TestZeroLog(t *testing.T) {
	var g rlog.Log
	holds(t, "zero", &g, api.Base{}, nil)
	g.Add(1, api.Command, "1.1")
	holds(t, "zero", &g, api.Base{}, run(1, 1))
}

// The time of a call doesn't grow with the log where it has no need to.
func TestManyEntries(t *testing.T) {
	g := rlog.New(api.Base{}, nil)
	const many = 300000
	for i := 1; i <= many; i++ {
		g.Add(i/1000, api.Command, "")
		if term, ok := g.Term(i/2 + 1); !ok || term != (i/2+1)/1000 {
			t.Fatal(i, term, ok)
		}
		if l := g.Slice(i, 8); len(l) != 1 || l[0].Index != i || g.Last() != i || !g.Newer(i, i/1000) {
			t.Fatal(i, l)
		}
	}
	if n, first, ok := g.Match(many-1, (many-1)/1000, 0, []api.Entry{{Term: 999}}); n != many || first != many || !ok {
		t.Error(n, first, ok)
	}
}
