package net_test

import (
	"math"
	"slices"
	"strconv"
	"testing"

	"kiosk/api"
	"kiosk/net"
)

// letters is a letter for each text, all between the same two nodes.
func letters(data ...string) []net.Letter {
	var l []net.Letter
	for _, s := range data {
		l = append(l, net.Letter{From: 1, To: 2, Data: s})
	}
	return l
}

// sent is a new net with these letters in flight.
func sent(data ...string) *net.Net {
	n := net.New()
	for _, s := range data {
		n.Send(1, 2, s)
	}
	return n
}

// numbers are the texts "0", "1" and so on.
func numbers(n int) []string {
	var l []string
	for i := range n {
		l = append(l, strconv.Itoa(i))
	}
	return l
}

func full() (*net.Net, []string) {
	l := numbers(api.MaxFlight)
	return sent(l...), l
}

func flies(t *testing.T, n *net.Net, want ...net.Letter) {
	t.Helper()
	l := n.Flight()
	if len(l) != len(want) {
		t.Fatalf("Flight: %d letters, not %d", len(l), len(want))
	}
	for k, x := range want {
		if l[k] != x {
			t.Fatalf("Flight: letter %d is %v, not %v", k, l[k], x)
		}
	}
}

func lost(t *testing.T, n *net.Net, want int) {
	t.Helper()
	if l := n.Lost(); l != want {
		t.Errorf("Lost: %d, not %d", l, want)
	}
}

func takes(t *testing.T, n *net.Net, k int, want net.Letter) {
	t.Helper()
	if x, ok := n.Take(k); x != want || !ok {
		t.Errorf("Take(%d): %v %v, not %v", k, x, ok, want)
	}
}

func takesNone(t *testing.T, n *net.Net, k int) {
	t.Helper()
	if x, ok := n.Take(k); x != (net.Letter{}) || ok {
		t.Errorf("Take(%d): %v %v, and there is none to be had", k, x, ok)
	}
}

func is(t *testing.T, what string, got, want bool) {
	t.Helper()
	if got != want {
		t.Errorf("%s: %v", what, got)
	}
}

// findsNone asks at places where there is no letter: nothing is there, and nothing comes of it.
func findsNone(t *testing.T, n *net.Net) {
	t.Helper()
	l, gone := n.Flight(), n.Lost()
	for _, k := range []int{-1, len(l), len(l) + 1, -len(l) - 1, 1 << 32, math.MaxInt, math.MinInt} {
		takesNone(t, n, k)
		is(t, "Twice", n.Twice(k), false)
		is(t, "Lose", n.Lose(k), false)
		is(t, "Late", n.Late(k), false)
	}
	flies(t, n, l...)
	lost(t, n, gone)
}

// The examples of the chapter.
func TestExamples(t *testing.T) {
	a, b := net.Letter{From: 1, To: 2, Data: "a"}, net.Letter{From: 1, To: 3, Data: "b"}
	n := net.New()
	n.Send(1, 2, "a")
	n.Send(1, 3, "b")
	is(t, "Twice", n.Twice(0), true)
	is(t, "Late", n.Late(0), true)
	flies(t, n, b, a, a)
	n.Split([]int{1})
	takesNone(t, n, 0)
	is(t, "Apart", n.Apart(2, 3), false)
	n.Whole()
	takes(t, n, 0, b)
	is(t, "Lose", n.Lose(0), true)
	lost(t, n, 1)
	flies(t, n, a)
}

// N1, N2, N3: a net without letters, whether New made it or not, and whether it ever had one.
func TestEmpty(t *testing.T) {
	taken, dropped := sent("a"), sent("a")
	takes(t, taken, 0, letters("a")[0])
	is(t, "Lose", dropped.Lose(0), true)
	for _, n := range []*net.Net{net.New(), {}, taken, dropped} {
		flies(t, n)
		findsNone(t, n)
		for _, a := range []int{0, 1, 9, -1, math.MaxInt, math.MinInt} {
			is(t, "Apart", n.Apart(a, 1), false)
			is(t, "Apart", n.Apart(1, a), false)
		}
		n.Whole()
		n.Send(4, 5, "x")
		flies(t, n, net.Letter{From: 4, To: 5, Data: "x"})
		n.Split([]int{4})
		takesNone(t, n, 0)
		n.Whole()
		takes(t, n, 0, net.Letter{From: 4, To: 5, Data: "x"})
	}
	lost(t, net.New(), 0)
	lost(t, &net.Net{}, 0)
	lost(t, taken, 0)
	lost(t, dropped, 1)
}

// N1: letters stand in the order in which they were sent, each as it was sent, whoever sends it to whom, and equal ones too.
func TestSend(t *testing.T) {
	want := []net.Letter{{1, 2, "a"}, {2, 1, "a"}, {1, 2, "a"}, {3, 3, ""}, {0, 0, ""}, {-1, 10, "\x00\xff"}, {math.MaxInt, math.MinInt, "long"}}
	n := net.New()
	for i, x := range want {
		n.Send(x.From, x.To, x.Data)
		flies(t, n, want[:i+1]...)
	}
	findsNone(t, n)
	for _, x := range want {
		takes(t, n, 0, x)
	}
	flies(t, n)
	lost(t, n, 0)
}

// N1, N3: 300 letters have room; each one more makes the first one give way.
func TestSendFull(t *testing.T) {
	all := numbers(api.MaxFlight + 5)
	n := net.New()
	for i, s := range all {
		n.Send(1, 2, s)
		gone := max(0, i+1-300)
		flies(t, n, letters(all[gone:i+1]...)...)
		lost(t, n, gone)
	}
	findsNone(t, n)
	takes(t, n, 7, letters("12")[0]) // and then there is room for one again
	n.Send(1, 2, "x")
	lost(t, n, 5)
	n.Send(1, 2, "y")
	lost(t, n, 6)
	takes(t, n, 0, letters("6")[0])
	takes(t, n, 298, letters("y")[0])
	takes(t, n, 297, letters("x")[0])
}

// N2: Take takes out the one that it answers, and no other; it is not lost.
func TestTake(t *testing.T) {
	all := []string{"a", "b", "c", "d"}
	for k, s := range all {
		n := sent(all...)
		takes(t, n, k, letters(s)[0])
		flies(t, n, letters(slices.Delete(slices.Clone(all), k, k+1)...)...)
		lost(t, n, 0)
		findsNone(t, n)
		n.Send(1, 2, "e")
		takes(t, n, 3, letters("e")[0])
	}
	n := sent("a", "a", "b")
	takes(t, n, 1, letters("a")[0])
	flies(t, n, letters("a", "b")...)
}

// N2: between separated nodes nothing arrives, either way; it stays at its place, and what others send one another does arrive.
func TestTakeApart(t *testing.T) {
	ways := []net.Letter{{1, 2, "in"}, {1, 3, "away"}, {3, 1, "back"}, {3, 4, "out"}, {2, 2, "own"}, {4, 4, "own"}}
	apart := []bool{false, true, true, false, false, false}
	n := net.New()
	for _, x := range ways {
		n.Send(x.From, x.To, x.Data)
	}
	n.Split([]int{2, 1})
	for range 2 { // asking changes nothing
		takesNone(t, n, 1)
		takesNone(t, n, 2)
		flies(t, n, ways...)
	}
	for k := len(ways) - 1; k >= 0; k-- {
		if !apart[k] {
			takes(t, n, k, ways[k])
		}
	}
	flies(t, n, ways[1:3]...)
	n.Send(2, 4, "later")
	takesNone(t, n, 2)
	n.Whole()
	takes(t, n, 2, net.Letter{From: 2, To: 4, Data: "later"})
	takes(t, n, 0, ways[1])
	takes(t, n, 0, ways[2])
	lost(t, n, 0)
}

// N2: a partition holds up nothing but Take.
func TestApartOthers(t *testing.T) {
	n := sent("a", "b")
	n.Split([]int{1})
	n.Send(1, 2, "c")
	is(t, "Twice", n.Twice(1), true)
	is(t, "Late", n.Late(0), true)
	flies(t, n, letters("b", "c", "b", "a")...)
	is(t, "Lose", n.Lose(2), true)
	flies(t, n, letters("b", "c", "a")...)
	lost(t, n, 1)
	findsNone(t, n)
	is(t, "Apart", n.Apart(1, 2), true)
}

// N2: the copy is the last one, the letter stays where it is, and each is taken for itself.
func TestTwice(t *testing.T) {
	all := []string{"a", "b", "c"}
	for k, s := range all {
		n := sent(all...)
		is(t, "Twice", n.Twice(k), true)
		flies(t, n, letters("a", "b", "c", s)...)
		is(t, "Twice", n.Twice(3), true) // and a copy is a letter as any other
		flies(t, n, letters("a", "b", "c", s, s)...)
		takes(t, n, k, letters(s)[0])
		takes(t, n, 2, letters(s)[0])
		takes(t, n, 2, letters(s)[0])
		flies(t, n, letters(slices.Delete(slices.Clone(all), k, k+1)...)...)
		lost(t, n, 0)
	}
	n := net.New()
	n.Send(7, -8, "")
	is(t, "Twice", n.Twice(0), true)
	flies(t, n, net.Letter{From: 7, To: -8}, net.Letter{From: 7, To: -8})
}

// N2, N3: in a full net the first letter gives way to the copy, even where it is the one that is copied.
func TestTwiceFull(t *testing.T) {
	for _, k := range []int{0, 1, 150, 299} {
		n, all := full()
		is(t, "Twice", n.Twice(k), true)
		flies(t, n, letters(append(all[1:], strconv.Itoa(k))...)...)
		lost(t, n, 1)
		findsNone(t, n)
	}
	n := sent(numbers(299)...)
	is(t, "Twice", n.Twice(0), true)
	flies(t, n, letters(append(numbers(299), "0")...)...)
	lost(t, n, 0)
	n, _ = full()
	for range 300 { // each is lost, and comes again
		is(t, "Twice", n.Twice(0), true)
	}
	flies(t, n, letters(numbers(300)...)...)
	lost(t, n, 300)
}

// N2, N3: Lose takes out the one, and counts it.
func TestLose(t *testing.T) {
	all := []string{"a", "b", "c", "d"}
	for k := range all {
		n := sent(all...)
		is(t, "Lose", n.Lose(k), true)
		flies(t, n, letters(slices.Delete(slices.Clone(all), k, k+1)...)...)
		lost(t, n, 1)
		for i := range 3 {
			is(t, "Lose", n.Lose(0), true)
			lost(t, n, i+2)
		}
		findsNone(t, n)
		lost(t, n, 4)
	}
}

// N2: Late puts the one behind all others, whose order stays; none is lost, however many there are.
func TestLate(t *testing.T) {
	all := []string{"a", "b", "c", "d"}
	for k, s := range all {
		n := sent(all...)
		is(t, "Late", n.Late(k), true)
		flies(t, n, letters(append(slices.Delete(slices.Clone(all), k, k+1), s)...)...)
		findsNone(t, n)
		lost(t, n, 0)
	}
	n := sent("a")
	is(t, "Late", n.Late(0), true)
	flies(t, n, letters("a")...)
	for _, k := range []int{0, 1, 150, 298, 299} {
		n, all := full()
		is(t, "Late", n.Late(k), true)
		flies(t, n, letters(append(slices.Delete(all, k, k+1), strconv.Itoa(k))...)...)
		lost(t, n, 0)
	}
}

// N3: what Lose and a full net lose is counted together; what is taken or late is not.
func TestLost(t *testing.T) {
	n, _ := full()
	n.Send(1, 2, "x")
	lost(t, n, 1)
	n.Twice(5)
	lost(t, n, 2)
	n.Lose(5)
	lost(t, n, 3)
	n.Twice(5)
	n.Late(5)
	n.Take(5)
	n.Send(1, 2, "y")
	lost(t, n, 3)
	n.Twice(0)
	lost(t, n, 4)
}

// P3, P4: the letters that Flight answers are the caller's, and one net knows nothing of another.
func TestFlightOwn(t *testing.T) {
	n, other := sent("a", "b"), sent("z")
	l := n.Flight()
	l[0] = net.Letter{From: 8, To: 8, Data: "mine"}
	l = append(l, l[0])
	flies(t, n, letters("a", "b")...)
	n.Send(1, 2, "c")
	n.Late(0)
	n.Lose(0)
	if !slices.Equal(l, []net.Letter{{8, 8, "mine"}, {1, 2, "b"}, {8, 8, "mine"}}) {
		t.Error("the caller's letters were changed:", l)
	}
	first, second := n.Flight(), n.Flight()
	first[0].Data = "mine"
	flies(t, n, second...)
	flies(t, n, letters("c", "a")...)
	n.Split([]int{1})
	takes(t, other, 0, letters("z")[0])
	lost(t, other, 0)
	is(t, "Apart", other.Apart(1, 2), false)
}

// N1, P1: many letters go through a net, and it keeps the last ones.
func TestMany(t *testing.T) {
	const many = 200000
	all := numbers(many)
	n := sent(all...)
	flies(t, n, letters(all[many-300:]...)...)
	lost(t, n, many-300)
	for range many * 3 { // goes round 2000 times
		n.Late(0)
	}
	flies(t, n, letters(all[many-300:]...)...)
	for range many {
		n.Twice(299)
	}
	flies(t, n, slices.Repeat(letters(all[many-1]), 300)...)
	lost(t, n, many-300+many)
}
