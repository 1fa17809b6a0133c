package net_test

import (
	"math/rand"
	"slices"
	"strconv"
	"testing"

	"kiosk/net"
)

// plain is a net by the words of the document.
type plain struct {
	flight []net.Letter
	lost   int
	group  map[int]bool // nobody while there is no partition
}

func (p *plain) has(k int) bool { return 0 <= k && k < len(p.flight) }

func (p *plain) out(k int) net.Letter {
	x := p.flight[k]
	p.flight = slices.Concat(p.flight[:k], p.flight[k+1:])
	return x
}

func (p *plain) send(x net.Letter) {
	if len(p.flight) == 300 {
		p.out(0)
		p.lost++
	}
	p.flight = append(p.flight, x)
}

func (p *plain) take(k int) (net.Letter, bool) {
	if !p.has(k) || p.group[p.flight[k].From] != p.group[p.flight[k].To] {
		return net.Letter{}, false
	}
	return p.out(k), true
}

func (p *plain) twice(k int) bool {
	if !p.has(k) {
		return false
	}
	p.send(p.flight[k])
	return true
}

func (p *plain) lose(k int) bool {
	if !p.has(k) {
		return false
	}
	p.out(k)
	p.lost++
	return true
}

func (p *plain) late(k int) bool {
	if !p.has(k) {
		return false
	}
	p.flight = append(p.flight, p.out(k))
	return true
}

// step is a call: what is called, and with what.
type step struct {
	kind, k, from, to int
	data              string
	group             []int
}

const (
	send = iota
	take
	twice
	lose
	late
	split
	whole
)

// anyStep chooses sends so often that a net fills up, when it is to.
func anyStep(r *rand.Rand, p *plain, sends int) step {
	x := step{kind: send, k: r.Intn(len(p.flight)+2) - 1, from: r.Intn(6), to: r.Intn(6)}
	x.data = strconv.Itoa(r.Intn(50)) // now and then two are equal
	if r.Intn(100) >= sends {
		x.kind = 1 + r.Intn(6)
	}
	for range r.Intn(4) {
		x.group = append(x.group, r.Intn(6))
	}
	return x
}

// play does a step in a net, and in the plain one, and holds the answers against each other.
func play(t *testing.T, n *net.Net, p *plain, x step) {
	t.Helper()
	switch x.kind {
	case send:
		n.Send(x.from, x.to, x.data)
		p.send(net.Letter{From: x.from, To: x.to, Data: x.data})
	case take:
		if want, ok := p.take(x.k); ok {
			takes(t, n, x.k, want)
		} else {
			takesNone(t, n, x.k)
		}
	case twice:
		is(t, "Twice", n.Twice(x.k), p.twice(x.k))
	case lose:
		is(t, "Lose", n.Lose(x.k), p.lose(x.k))
	case late:
		is(t, "Late", n.Late(x.k), p.late(x.k))
	case split:
		n.Split(x.group)
		p.group = members(x.group...)
	case whole:
		n.Whole()
		p.group = nil
	}
	flies(t, n, p.flight...)
	lost(t, n, p.lost)
}

// N1, N2, N3, P4: any row of calls answers what the words say, and the same when it is played again.
func TestAnyCalls(t *testing.T) {
	for seed := range int64(100) {
		r := rand.New(rand.NewSource(seed))
		sends := []int{20, 50, 80, 99}[seed%4]
		n, p := net.New(), &plain{}
		var row []step
		for range 800 {
			x := anyStep(r, p, sends)
			row = append(row, x)
			play(t, n, p, x)
			if t.Failed() {
				t.Fatalf("seed %d", seed)
			}
		}
		holdsOff(t, n, some, p.group)
		again, p := net.New(), &plain{}
		for _, x := range row {
			play(t, again, p, x)
		}
		flies(t, again, n.Flight()...)
	}
}

// N4: what is taken was sent, as it was sent, and no more often than it was sent and doubled; what was neither taken nor lost is in flight.
func TestNothingInvented(t *testing.T) {
	for seed := range int64(60) {
		r := rand.New(rand.NewSource(seed))
		n := net.New()
		open := map[net.Letter]int{} // how often each may still come
		taken, made := 0, 0
		for i := range 1500 {
			k := r.Intn(310) - 5
			switch l := n.Flight(); r.Intn(9) {
			case 0:
				n.Split([]int{r.Intn(5), r.Intn(5)})
			case 1:
				n.Whole()
			case 2:
				n.Late(k)
			case 3:
				n.Lose(k)
			case 4:
				if n.Twice(k) {
					open[l[k]]++
					made++
				}
			case 5:
				x, ok := n.Take(k)
				if !ok {
					break
				}
				if open[x]--; open[x] < 0 {
					t.Fatalf("seed %d: %v was taken too often", seed, x)
				}
				taken++
			default:
				x := net.Letter{From: r.Intn(5), To: r.Intn(5), Data: strconv.Itoa(i % (100 + int(seed)))}
				n.Send(x.From, x.To, x.Data)
				open[x]++
				made++
			}
		}
		if here := len(n.Flight()); made != taken+n.Lost()+here {
			t.Errorf("seed %d: %d were sent, %d taken, %d lost, and %d are in flight", seed, made, taken, n.Lost(), here)
		}
		n.Whole()
		for x, ok := n.Take(0); ok; x, ok = n.Take(0) {
			if open[x]--; open[x] < 0 {
				t.Fatalf("seed %d: %v was taken too often", seed, x)
			}
		}
		flies(t, n)
	}
}
