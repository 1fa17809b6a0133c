package shard_test

import (
	"math"
	"math/rand"
	"slices"
	"strconv"
	"testing"

	"kiosk/shard"
)

// noShards are numbers that no shard has.
func noShards() []int {
	return []int{-1, -4, -7, -8, 8, 9, 12, 15, 16, 256, 260, 1<<32 + 4, -1<<32 + 4, math.MinInt, math.MinInt + 4, math.MaxInt}
}

// modelPart is Part by the chapter's words.
func modelPart(l []string, n int) []string {
	var part []string
	for _, s := range l {
		if n >= 0 && n <= 7 && modelHash(s)%8 == uint32(n) {
			part = append(part, s)
		}
	}
	return part
}

// holdsParts asks for each part of l, and for all at once.
func holdsParts(t *testing.T, l []string) {
	t.Helper()
	parts := shard.Parts(l)
	if len(parts) != 8 {
		t.Fatalf("%d parts of %.100q", len(parts), l)
	}
	for n, part := range parts {
		want := modelPart(l, n)
		if !slices.Equal(part, want) {
			t.Fatalf("Parts(%.300q)[%d]: %.300q, not %.300q", l, n, part, want)
		}
		if part = shard.Part(l, n); !slices.Equal(part, want) {
			t.Fatalf("Part(%.300q, %d): %.300q, not %.300q", l, n, part, want)
		}
	}
	for _, n := range noShards() {
		if part := shard.Part(l, n); len(part) != 0 {
			t.Fatalf("Part(%.300q, %d): %.300q", l, n, part)
		}
	}
}

// feeds draws some that are named, a few of them twice, and some that no feed is called.
func feeds(r *rand.Rand, n int) []string {
	var l []string
	for range r.Intn(n) {
		switch k := r.Intn(8); {
		case k == 0:
			l = append(l, drawn(r, 70))
		case k == 1 && len(l) > 0:
			l = append(l, l[r.Intn(len(l))])
		default:
			l = append(l, "http://example.org/"+strconv.Itoa(r.Intn(2*n)))
		}
	}
	return l
}

// H2: the chapter's example, and names of each shard whose places are worked out by hand.
func TestPartExamples(t *testing.T) {
	l := []string{"a", "b", "a"}
	if part := shard.Part(l, 4); !slices.Equal(part, []string{"a", "a"}) {
		t.Errorf("%q", part)
	}
	if part := shard.Part(l, 5); !slices.Equal(part, []string{"b"}) {
		t.Errorf("%q", part)
	}
	// "a", "b", "c", "foobar" and "" end on the bits 100, 101, 010, 000 and 101.
	got := shard.Parts([]string{"foobar", "a", "", "c", "b", "a"})
	want := [][]string{{"foobar"}, nil, {"c"}, nil, {"a", "a"}, {"", "b"}, nil, nil}
	if !slices.EqualFunc(got, want, slices.Equal) {
		t.Errorf("%q", got)
	}
}

// H2: no names, one name, one name often, and names of one shard alone.
func TestPartFew(t *testing.T) {
	holdsParts(t, nil)
	holdsParts(t, []string{})
	holdsParts(t, []string{""})
	holdsParts(t, []string{"", "", "a b", "\xff"})
	var one []string
	for i := range 400 {
		s := "f" + strconv.Itoa(i)
		holdsParts(t, []string{s})
		if modelHash(s)%8 == 7 {
			one = append(one, s)
		}
	}
	holdsParts(t, one)
	if l := shard.Part(one, 7); len(one) < 10 || !slices.Equal(l, one) {
		t.Errorf("%q of %q", l, one)
	}
	for n := range 7 {
		if l := shard.Part(one, n); len(l) != 0 {
			t.Errorf("%d: %q", n, l)
		}
	}
}

// H2: the order is that of the names handed in, neither sorted nor turned round, and what is there twice stays.
func TestPartOrder(t *testing.T) {
	for _, l := range [][]string{
		{"a", "i", "a", "i", "i", "a"}, {"i", "a"}, {"b", "a", "c", "b", "a", "c"}, {"c", "c", "c"},
	} {
		holdsParts(t, l)
		slices.Reverse(l)
		holdsParts(t, l)
	}
	if l := shard.Part([]string{"i", "b", "a", "i"}, 4); !slices.Equal(l, []string{"i", "a", "i"}) {
		t.Errorf("%q", l)
	}
}

// H2, P1: any names, against the words of the chapter.
func TestPartAny(t *testing.T) {
	r := rand.New(rand.NewSource(2))
	for range 600 {
		holdsParts(t, feeds(r, 60))
	}
	var many []string
	for len(many) < 100000 {
		many = append(many, feeds(r, 1000)...)
	}
	parts := shard.Parts(many)
	for n, part := range parts {
		if !slices.Equal(part, modelPart(many, n)) || !slices.Equal(part, shard.Part(many, n)) {
			t.Error("many names: shard", n)
		}
	}
}

// H3: each name occurs in exactly one part, as often as among those handed in.
func TestEachInOne(t *testing.T) {
	r := rand.New(rand.NewSource(3))
	for range 2000 {
		l := feeds(r, 80)
		want := map[string]int{}
		for _, s := range l {
			want[s]++
		}
		where, all := map[string]int{}, 0
		for n, part := range shard.Parts(l) {
			count := map[string]int{}
			for _, s := range part {
				count[s]++
			}
			all += len(part)
			for s, c := range count {
				if k, twice := where[s]; twice || c != want[s] || n != shard.Of(s) {
					t.Fatalf("%q: %d in part %d, part %d (%v), of %d", s, c, n, k, twice, want[s])
				}
				where[s] = n
			}
		}
		if len(where) != len(want) || all != len(l) {
			t.Fatalf("%q: %d of %d names, %d of %d elements", l, len(where), len(want), all, len(l))
		}
	}
}

// P3: what is handed in stays, what lies behind its end is neither read nor written, and answers are new and share nothing.
func TestPartsStay(t *testing.T) {
	row := []string{"x", "a", "b", "i", "a", "c", "a", "a"}
	keeps := slices.Clone(row)
	l := row[1:4]
	holdsParts(t, l)
	for n := range 8 {
		part, again := shard.Part(l, n), shard.Part(l, n)
		for _, other := range append(shard.Parts(l), again) {
			for k := range other {
				other[k] = "spoilt"
			}
			other = append(other, "more")
			_ = append(other, "and more")
		}
		if !slices.Equal(part, modelPart(l, n)) || !slices.Equal(row, keeps) {
			t.Fatalf("shard %d: %q, %q", n, part, row)
		}
	}
	parts := shard.Parts(row)
	want := shard.Parts(row)
	for n := range parts {
		for k := range parts[n] {
			parts[n][k] = "spoilt"
		}
		longer := parts[n]
		for range 20 { // into whatever room lies behind a part
			longer = append(longer, "more")
		}
		for m := n + 1; m < 8; m++ {
			if !slices.Equal(parts[m], want[m]) {
				t.Fatalf("part %d spoils part %d: %q", n, m, parts[m])
			}
		}
		for m := range n {
			if len(parts[m]) != len(want[m]) || slices.Contains(parts[m], "more") {
				t.Fatalf("part %d spoils part %d: %q", n, m, parts[m])
			}
		}
	}
	if !slices.Equal(row, keeps) {
		t.Fatalf("%q", row)
	}
}

// P3: a later change of what was handed in is not to be seen.
func TestPartsKept(t *testing.T) {
	l := []string{"a", "b", "a"}
	part, parts := shard.Part(l, 4), shard.Parts(l)
	clear(l)
	if !slices.Equal(part, []string{"a", "a"}) || !slices.Equal(parts[4], part) || !slices.Equal(parts[5], []string{"b"}) {
		t.Errorf("%q, %q", part, parts)
	}
}
