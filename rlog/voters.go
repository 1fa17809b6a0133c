package rlog

import (
	"slices"

	"kiosk/api"
	"kiosk/msg"
)

// Voters are those that count at an Index.
func (g *Log) Voters(i int) []int {
	if k := lastIndex(g.entries, upTo(i).sets); k >= 0 {
		l, _ := voters(g.entries[k])
		return l
	}
	return slices.Clone(g.base.Voters)
}

func lastIndex(l []api.Entry, fits func(api.Entry) bool) int {
	for k, e := range slices.Backward(l) {
		if fits(e) {
			return k
		}
	}
	return -1
}

// upTo is the Index behind which no entry counts.
type upTo int

func (i upTo) sets(e api.Entry) bool {
	_, ok := voters(e)
	return ok && e.Index <= int(i)
}

// voters are those that an entry sets, if it sets any.
func voters(e api.Entry) ([]int, bool) {
	if e.Kind != api.Config {
		return nil, false
	}
	l, rest, ok := msg.ToVoters(e.Data)
	if !ok || rest != "" || !rising(l) {
		return nil, false
	}
	return l, true
}

// rising tells whether numbers from 1 to MaxNode rise.
func rising(l []int) bool {
	low := 0
	for _, n := range l {
		if n <= low || n > api.MaxNode {
			return false
		}
		low = n
	}
	return true
}
