package rlog_test

import (
	"math"
	"slices"
	"testing"

	"kiosk/api"
	"kiosk/msg"
	"kiosk/rlog"
)

// G4, G5: Compact moves the base up to each entry; what lies from there on stays as it was.
func TestCompact(t *testing.T) {
	terms := []int{2, 2, 2, 3, 5, 5}
	for i := 6; i <= 10; i++ {
		g := five()
		if e := g.Compact(i, "data\x00\xff"); e != api.OK {
			t.Error(i, e)
		}
		b := api.Base{Index: i, Term: terms[i-5], Voters: []int{1, 2, 3}, Data: "data\x00\xff"}
		holds(t, "Compact", g, b, run(i+1, terms[i-4:]...))
		if g.Last() != 10 {
			t.Error("Last is", g.Last())
		}
		if e := g.Add(6, api.Command, "11.6"); e != entry(11, 6) {
			t.Error(e)
		}
	}
}

// G4: one step after the other, up to the last entry.
func TestCompactSteps(t *testing.T) {
	g, terms := five(), []int{2, 2, 2, 3, 5, 5}
	for i := 6; i <= 10; i++ {
		if e := g.Compact(i, ""); e != api.OK {
			t.Error(i, e)
		}
		holds(t, "steps", g, api.Base{Index: i, Term: terms[i-5], Voters: []int{1, 2, 3}}, run(i+1, terms[i-4:]...))
		if e := g.Compact(i, "again"); e != api.ErrRange {
			t.Error(i, e)
		}
	}
}

// G4: no Index up to that of the base, and none behind the last one; then nothing is changed.
func TestCompactRange(t *testing.T) {
	g := five()
	for _, i := range append(far(), 0, 4, 5, 11, 12) {
		if e := g.Compact(i, "x"); e != api.ErrRange {
			t.Error(i, e)
		}
		holds(t, "ErrRange", g, five().Base(), run(6, 2, 2, 3, 5, 5))
	}
	g = rlog.New(api.Base{}, nil)
	for _, i := range append(far(), 0, 1) {
		if e := g.Compact(i, "x"); e != api.ErrRange {
			t.Error(i, e)
		}
	}
	holds(t, "empty", g, api.Base{}, nil)
}

// G4, G5: Compact takes over the voters that count at its Index, and Voters from there on stay.
func TestCompactVoters(t *testing.T) {
	for i := 1; i <= 6; i++ {
		g := voting()
		want := map[int][]int{}
		for n := i; n <= 8; n++ {
			want[n] = g.Voters(n)
		}
		if e := g.Compact(i, ""); e != api.OK {
			t.Error(i, e)
		}
		if b := g.Base(); !slices.Equal(b.Voters, want[i]) {
			t.Error(i, b)
		}
		for n := range want {
			if l := g.Voters(n); !slices.Equal(l, want[n]) {
				t.Error(i, n, l, want[n])
			}
		}
		if l := g.Voters(0); !slices.Equal(l, want[i]) { // ahead of the base there is nothing but the base
			t.Error(i, l)
		}
	}
}

// G4: a base that the log leads to: the entries behind it stay.
func TestRestoreKnown(t *testing.T) {
	terms := []int{2, 2, 2, 3, 5, 5}
	for i := 5; i <= 10; i++ {
		for _, b := range []api.Base{{Data: "restored"}, {Voters: []int{4, 5, 6}}} {
			g := five()
			b.Index, b.Term = i, terms[i-5]
			if !g.Restore(b) {
				t.Error(b)
			}
			holds(t, "known", g, b, run(i+1, terms[i-4:]...))
			if l := g.Voters(10); !slices.Equal(l, b.Voters) {
				t.Error(l, b)
			}
			if e := g.Add(6, api.Command, "11.6"); e != entry(11, 6) {
				t.Error(e)
			}
		}
	}
}

// G4: any other base: no entries stay, wherever it lies.
func TestRestoreOther(t *testing.T) {
	for _, c := range []struct{ index, term int }{
		{4, 2}, {4, 0}, {0, 0}, {0, 2}, {11, 5}, {11, 0}, {12, 9}, {1 << 40, 5}, {math.MaxInt - 9, 5},
		{5, 1}, {5, 3}, {5, 0}, {6, 1}, {6, 3}, {8, 2}, {8, 5}, {10, 4}, {10, 6}, {10, 0}, {7, math.MinInt}, {7, math.MaxInt},
	} {
		g := five()
		b := api.Base{Index: c.index, Term: c.term, Voters: []int{7, 8}, Data: "other"}
		if g.Restore(b) {
			t.Error(b)
		}
		holds(t, "other", g, b, nil)
		if e := g.Add(6, api.Command, ""); e != (api.Entry{Index: c.index + 1, Term: 6, Kind: api.Command}) {
			t.Error(e)
		}
	}
}

// G4: entries that set voters go, or stay, as the others do.
func TestRestoreVoters(t *testing.T) {
	g := voting()
	if !g.Restore(api.Base{Index: 3, Term: 1, Voters: []int{9}}) {
		t.Error("false")
	}
	for i, want := range map[int][]int{2: {9}, 3: {9}, 4: {9}, 5: {2, 3}, 6: {2, 3}} {
		if l := g.Voters(i); !slices.Equal(l, want) {
			t.Error(i, l)
		}
	}
	if g.Restore(api.Base{Index: 3, Term: 2}) {
		t.Error("true")
	}
	if l := g.Voters(9); len(l) != 0 {
		t.Error(l)
	}
}

// P3: the base that is handed in stays, and isn't kept.
func TestRestoreKeeps(t *testing.T) {
	for _, term := range []int{3, 4} {
		g, v := five(), []int{1, 2, 3, 4}
		b := api.Base{Index: 8, Term: term, Voters: v[:3]}
		g.Restore(b)
		g.Add(9, api.Config, msg.Voters([]int{5}))
		g.Base().Voters[0] = 7
		if !slices.Equal(v, []int{1, 2, 3, 4}) {
			t.Error(v)
		}
		v[0] = 9
		if l := g.Base().Voters; !slices.Equal(l, []int{1, 2, 3}) {
			t.Error(l)
		}
	}
}

// P3: an answer of Voters isn't the base that Compact makes of it, nor an entry's.
func TestCompactKeeps(t *testing.T) {
	g := voting()
	before := g.Voters(6)
	g.Compact(6, "")
	before[0] = 9
	after := g.Voters(6)
	after[1] = 9
	if l := g.Voters(6); !slices.Equal(l, []int{2, 3}) {
		t.Error(l)
	}
}
