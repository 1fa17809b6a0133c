package conf_test

import (
	"math/rand"
	"slices"
	"testing"

	"kiosk/conf"
)

// majorities are the masks of all subsets of some that are a majority of them.
func majorities(mask int) []int {
	var l []int
	for part := range mask + 1 {
		if part&^mask == 0 && conf.Most(set(mask, 1), set(part, 1)) {
			l = append(l, part)
		}
	}
	return l
}

// C4: a majority has a node in common with each other one of the same voters, and with each one of those that may follow.
func TestMajoritiesMeet(t *testing.T) {
	for a := range 1 << 9 {
		l := set(a, 1)
		if !conf.Right(l) {
			continue
		}
		followers := 0
		for bit := range 10 {
			b := (a ^ 1<<bit) & (1<<9 - 1) // bit 9 is none: the same voters
			if b != a && !conf.Next(l, set(b, 1)) {
				continue
			}
			if b != a {
				followers++
			}
			for _, x := range majorities(a) {
				for _, y := range majorities(b) {
					if x&y == 0 {
						t.Fatalf("%v of %v, and %v of %v", set(x, 1), l, set(y, 1), set(b, 1))
					}
				}
			}
		}
		if want := map[int]int{3: 6, 4: 9, 5: 9, 6: 9, 7: 7}[len(l)]; followers != want {
			t.Fatalf("%v has %d followers", l, followers)
		}
	}
}

// C4: Agreed is one of the numbers, whatever their order; more than half are not less, and not more than half are greater.
func TestAgreedFollows(t *testing.T) {
	r := rand.New(rand.NewSource(4))
	for range 20000 {
		l := append(drawn(r, 9), r.Intn(9))
		m := conf.Agreed(l)
		least, greater := 0, 0
		for _, n := range l {
			if n >= m {
				least++
			}
			if n > m {
				greater++
			}
		}
		if !slices.Contains(l, m) || 2*least <= len(l) || 2*greater > len(l) {
			t.Fatalf("Agreed(%v): %d", l, m)
		}
		r.Shuffle(len(l), func(i, j int) { l[i], l[j] = l[j], l[i] })
		if conf.Agreed(l) != m {
			t.Fatalf("Agreed(%v): not %d", l, m)
		}
	}
}

// C4: of voters, With takes back what Without did, and the other way round; between right ones each is a Next.
func TestWithAndWithout(t *testing.T) {
	for mask := range 1 << 9 {
		l := set(mask, 1)
		for node := 1; node <= 9; node++ {
			with, without := conf.With(l, node), conf.Without(l, node)
			bit := 1 << (node - 1)
			if !slices.Equal(with, set(mask|bit, 1)) || !slices.Equal(without, set(mask&^bit, 1)) {
				t.Fatalf("%v and %d: %v, %v", l, node, with, without)
			}
			if !slices.Equal(conf.With(without, node), with) || !slices.Equal(conf.Without(with, node), without) {
				t.Fatalf("%v and %d: there is no way back", l, node)
			}
			if !conf.Has(with, node) || conf.Has(without, node) {
				t.Fatalf("%v and %d: Has", l, node)
			}
			if conf.Next(with, without) != (conf.Right(with) && conf.Right(without)) {
				t.Fatalf("%v and %d: Next", l, node)
			}
		}
	}
}
