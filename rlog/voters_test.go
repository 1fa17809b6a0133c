package rlog_test

import (
	"math"
	"slices"
	"testing"

	"kiosk/api"
	"kiosk/codec"
	"kiosk/msg"
	"kiosk/rlog"
)

// sets is an entry that sets voters, if it may.
func sets(index, term int, l ...int) api.Entry {
	return api.Entry{Index: index, Term: term, Kind: api.Config, Data: msg.Voters(l)}
}

// voting is a log whose voters are 1 to 3, then 1 to 4 from entry 2 on, and 2 and 3 from entry 5 on.
func voting() *rlog.Log {
	return rlog.New(api.Base{Voters: []int{1, 2, 3}}, []api.Entry{
		entry(1, 1), sets(2, 1, 1, 2, 3, 4), entry(3, 1), sets(4, 1, 4, 1), sets(5, 2, 2, 3), entry(6, 2),
	})
}

// G1: the last entry up to an Index counts, of those that set voters; or else the base.
func TestVoters(t *testing.T) {
	g := voting()
	for i, want := range map[int][]int{
		math.MinInt: {1, 2, 3}, -1: {1, 2, 3}, 0: {1, 2, 3}, 1: {1, 2, 3}, 2: {1, 2, 3, 4}, 3: {1, 2, 3, 4}, 4: {1, 2, 3, 4},
		5: {2, 3}, 6: {2, 3}, 7: {2, 3}, 1 << 40: {2, 3}, math.MaxInt: {2, 3},
	} {
		if l := g.Voters(i); !slices.Equal(l, want) {
			t.Error(i, l)
		}
	}
}

// votersAfter are those behind an entry with this Kind and these Data; without it they are 1, 5 and 9.
func votersAfter(kind int, data string) []int {
	g := rlog.New(api.Base{Index: 7, Term: 1, Voters: []int{1, 5, 9}}, nil)
	g.Add(1, kind, data)
	g.Add(1, api.Command, msg.Voters([]int{4}))
	return g.Voters(9)
}

// G1: numbers from 1 to 9 that rise strictly are set, be it none, or all.
func TestSets(t *testing.T) {
	for _, l := range [][]int{{}, {1}, {9}, {1, 2}, {8, 9}, {1, 9}, {2, 4, 6, 8}, {1, 2, 3, 4, 5, 6, 7, 8}, {1, 2, 3, 4, 5, 6, 7, 8, 9}} {
		if x := votersAfter(api.Config, msg.Voters(l)); !slices.Equal(x, l) {
			t.Error(l, x)
		}
	}
}

// G1: other numbers are not set, nor are those of another Kind.
func TestSetsNot(t *testing.T) {
	for _, l := range [][]int{
		{0}, {10}, {-1}, {math.MinInt}, {math.MaxInt}, {0, 1}, {9, 10}, {-1, 2}, {1, 1}, {9, 9}, {2, 1}, {1, 3, 2}, {1, 2, 2}, {3, 2, 1},
		{1, 2, 3, 4, 5, 6, 7, 8, 8}, {1, 2, 3, 4, 5, 6, 7, 8, 10}, {0, 1, 2, 3, 4, 5, 6, 7, 8}, {0, 1, 2, 3, 4, 5, 6, 7, 8, 9},
		{1, 2, 3, 4, 5, 6, 7, 8, 9, 9}, {1, 2, 3, 4, 5, 6, 7, 8, 9, 10}, make([]int, 1000),
	} {
		if x := votersAfter(api.Config, msg.Voters(l)); !slices.Equal(x, []int{1, 5, 9}) {
			t.Error(l, x)
		}
	}
	for _, kind := range []int{api.Noop, api.Command, 0, 4, -3, math.MaxInt} {
		if x := votersAfter(kind, msg.Voters([]int{1, 2})); !slices.Equal(x, []int{1, 5, 9}) {
			t.Error(kind, x)
		}
	}
}

// G1: the Data must be exactly an encoding.
func TestSetsExactly(t *testing.T) {
	s := msg.Voters([]int{1, 2, 3})
	for end := range len(s) {
		if x := votersAfter(api.Config, s[:end]); !slices.Equal(x, []int{1, 5, 9}) {
			t.Errorf("%q: %v", s[:end], x)
		}
	}
	for _, data := range []string{
		s + "\x00", s + "\x08", s + s, "\x00" + s, " " + s, "\x00\x00", "1 2 3", "\xff",
		"\x80" + s, s[:1] + "\x80" + s[1:], // a byte too many
		codec.Int(2, 1, 2, 3), codec.Int(4, 1, 2, 3), codec.Int(-1), codec.Int(-3, 1, 2, 3), codec.Int(math.MaxInt, 1), codec.Int(math.MinInt),
	} {
		if x := votersAfter(api.Config, data); !slices.Equal(x, []int{1, 5, 9}) {
			t.Errorf("%q: %v", data, x)
		}
	}
}

// G1: voters that Add and Match bring count at once, and those that Match takes away don't any more.
func TestVotersChange(t *testing.T) {
	g := voting()
	g.Add(2, api.Config, msg.Voters([]int{3, 4, 5}))
	if l := g.Voters(7); !slices.Equal(l, []int{3, 4, 5}) {
		t.Error(l)
	}
	g.Match(4, 1, 0, []api.Entry{sets(5, 3, 6, 7)})
	if l := g.Voters(7); !slices.Equal(l, []int{6, 7}) {
		t.Error(l)
	}
	g.Match(3, 1, 0, []api.Entry{entry(4, 4)})
	if l := g.Voters(7); !slices.Equal(l, []int{1, 2, 3, 4}) {
		t.Error(l)
	}
	g.Match(1, 1, 0, []api.Entry{entry(2, 4)})
	if l := g.Voters(7); !slices.Equal(l, []int{1, 2, 3}) {
		t.Error(l)
	}
}
