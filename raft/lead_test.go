package raft_test

import (
	"math"
	"slices"
	"strings"
	"testing"

	"kiosk/api"
	"kiosk/raft"
)

// done is what Take tells of a leader of term 1 that has but messages.
func done(l ...api.Msg) raft.Ready {
	return raft.Ready{Hard: api.Hard{Term: 1, Vote: 1}, Messages: l}
}

// heart are the messages of a heartbeat: what each other voter would be told next.
func heart(r *raft.Raft) []api.Msg {
	r.Take()
	ticks(r, 2)
	return r.Take().Messages
}

// R4: a new leader adds an entry of its term, and tells all others, from its old last Index on.
func TestWin(t *testing.T) {
	r := five()
	ticks(r, 3)
	r.Take()
	ticks(r, 1)
	r.Step(voted(3, 2, 6, true))
	is(t, r, raft.State{Role: raft.Leader, Term: 6, Vote: 2, Lead: 2, Commit: 5, First: 6, Last: 11})
	takes(t, r, raft.Ready{
		Hard: api.Hard{Term: 6, Vote: 2}, Entries: []api.Entry{noop(11, 6)},
		Messages: []api.Msg{appendTo(2, 1, 6, 10, 5, 5, noop(11, 6)), appendTo(2, 3, 6, 10, 5, 5, noop(11, 6))},
	})
	ticks(r, 1) // nothing has elapsed
	sends(t, r)
	ticks(r, 1)
	sends(t, r, appendTo(2, 1, 6, 10, 5, 5, noop(11, 6)), appendTo(2, 3, 6, 10, 5, 5, noop(11, 6)))
}

// R4: a leader again knows nothing of the others: what matched in an older term is forgotten.
func TestWinAgain(t *testing.T) {
	r := settled(1, 2, 3)
	r.Propose(api.Command, "a")
	r.Step(matched(2, 1, 1, 2))
	r.Step(vote(3, 1, 1, 9, 9))
	r.Step(hint(3, 1, 2, 0))
	ticks(r, 3)
	r.Take()
	r.Step(voted(3, 1, 3, true))
	is(t, r, raft.State{Role: raft.Leader, Term: 3, Vote: 1, Lead: 1, Commit: 2, First: 1, Last: 3})
	sends(t, r, appendTo(1, 2, 3, 2, 1, 2, noop(3, 3)), appendTo(1, 3, 3, 2, 1, 2, noop(3, 3)))
	r.Step(hint(2, 1, 3, 0)) // it may lead back to the first entry: nothing is known to match
	sends(t, r, appendTo(1, 2, 3, 0, 0, 2, noop(1, 1), api.Entry{Index: 2, Term: 1, Kind: 2, Data: "a"}, noop(3, 3)))
}

// R3: what matches is noted, the commit index follows the majority, and the voter is told what comes next.
func TestMatched(t *testing.T) {
	r := settled(1, 2, 3, 4, 5)
	for i := range 20 {
		r.Propose(api.Noop, "")
		same(t, "Last", r.State().Last, i+2)
	}
	r.Take()
	terms := func(from, n int) []api.Entry {
		var l []api.Entry
		for i := range n {
			l = append(l, noop(from+i, 1))
		}
		return l
	}
	r.Step(matched(3, 1, 1, 9))
	takes(t, r, done(appendTo(1, 3, 1, 9, 1, 1, terms(10, 8)...)))
	r.Step(matched(5, 1, 1, 15)) // three of five have 9
	takes(t, r, raft.Ready{
		Hard: api.Hard{Term: 1, Vote: 1}, Committed: terms(2, 8),
		Messages: []api.Msg{
			appendTo(1, 2, 1, 1, 1, 9, terms(2, 8)...), appendTo(1, 3, 1, 9, 1, 9, terms(10, 8)...), appendTo(1, 4, 1, 1, 1, 9, terms(2, 8)...),
			appendTo(1, 5, 1, 15, 1, 9, terms(16, 6)...), appendTo(1, 5, 1, 15, 1, 9, terms(16, 6)...),
		},
	})
	r.Step(matched(5, 1, 1, 3)) // an answer of before
	takes(t, r, done(appendTo(1, 5, 1, 15, 1, 9, terms(16, 6)...)))
	r.Step(matched(4, 1, 1, 21))
	is(t, r, raft.State{Role: raft.Leader, Term: 1, Vote: 1, Lead: 1, Commit: 15, First: 1, Last: 21})
	same(t, "Messages", len(r.Take().Messages), 4) // nothing is left to tell node 4
	r.Step(matched(2, 1, 1, 99))                   // no more than there is
	is(t, r, raft.State{Role: raft.Leader, Term: 1, Vote: 1, Lead: 1, Commit: 21, First: 1, Last: 21})
	sends(t, r, appendTo(1, 2, 1, 21, 1, 21), appendTo(1, 3, 1, 9, 1, 21, terms(10, 8)...), appendTo(1, 4, 1, 21, 1, 21), appendTo(1, 5, 1, 15, 1, 21, terms(16, 6)...))
	r.Propose(api.Noop, "")
	sends(t, r, appendTo(1, 2, 1, 21, 1, 21, noop(22, 1)), appendTo(1, 3, 1, 9, 1, 21, terms(10, 8)...), appendTo(1, 4, 1, 21, 1, 21, noop(22, 1)), appendTo(1, 5, 1, 15, 1, 21, terms(16, 7)...))
}

// R3: where nothing matches the leader goes back: one step, or to the hint, but not behind what matches.
func TestHint(t *testing.T) {
	l := run(6, 2, 2, 3, 5, 5)
	r := five()
	ticks(r, 3)
	r.Step(voted(1, 2, 6, true))
	r.Take() // next is 11
	n := noop(11, 6)
	r.Step(hint(3, 2, 6, 10))
	sends(t, r, appendTo(2, 3, 6, 9, 5, 5, l[4], n)) // one step
	r.Step(hint(3, 2, 6, 99))
	sends(t, r, appendTo(2, 3, 6, 8, 3, 5, l[3], l[4], n)) // one step
	r.Step(hint(3, 2, 6, 6))
	sends(t, r, appendTo(2, 3, 6, 6, 2, 5, append(slices.Clone(l[1:]), n)...)) // to the hint
	r.Step(hint(3, 2, 6, 5))
	sends(t, r, appendTo(2, 3, 6, 5, 2, 5, append(slices.Clone(l), n)...))
	r.Step(hint(3, 2, 6, 4))
	sends(t, r, snapTo(2, 3, 6, base(5, 2, 1, 2, 3)))
	r.Step(hint(3, 2, 6, 0))
	sends(t, r, snapTo(2, 3, 6, base(5, 2, 1, 2, 3)))
	r.Step(matched(3, 2, 6, 7)) // 7 is of an older term: it's not committed by that
	is(t, r, raft.State{Role: raft.Leader, Term: 6, Vote: 2, Lead: 2, Commit: 5, First: 6, Last: 11})
	sends(t, r, appendTo(2, 3, 6, 7, 2, 5, append(slices.Clone(l[2:]), n)...))
	for _, i := range []int{0, 6, 7, 99} {
		r.Step(hint(3, 2, 6, i))
		sends(t, r, appendTo(2, 3, 6, 7, 2, 5, append(slices.Clone(l[2:]), n)...))
	}
	r.Step(matched(3, 2, 6, 9))
	r.Take()
	r.Step(hint(3, 2, 6, 0))
	sends(t, r, appendTo(2, 3, 6, 9, 5, 5, l[4], n))
}

// R3: next is at least 1, however often a follower says that nothing matches.
func TestHintFirst(t *testing.T) {
	r := leading(1, 2, 3)
	for range 3 {
		r.Step(hint(2, 1, 1, 0))
		takes(t, r, done(appendTo(1, 2, 1, 0, 0, 0, noop(1, 1))))
	}
}

// R3: next goes back by a hint, and does not come back by what matches less.
func TestMatchedNext(t *testing.T) {
	r := settled(1, 2, 3)
	for range 9 {
		r.Propose(api.Noop, "")
	}
	r.Take()
	r.Step(matched(2, 1, 1, 8))
	same(t, "Commit", r.State().Commit, 8)
	r.Take()
	r.Step(matched(2, 1, 1, 2))
	l := r.Take().Messages
	same(t, "Messages", l, []api.Msg{appendTo(1, 2, 1, 8, 1, 8, noop(9, 1), noop(10, 1))})
}

// R3: what matches ahead of next does not lead back, and the last entry is sent as well.
func TestMatchedAhead(t *testing.T) {
	r := five()
	ticks(r, 3)
	r.Step(voted(1, 2, 6, true)) // next is 11, the last one
	r.Take()
	r.Step(matched(3, 2, 6, 7))
	sends(t, r, appendTo(2, 3, 6, 10, 5, 5, noop(11, 6)))
	r.Step(hint(3, 2, 6, 0)) // but it matches up to 7
	l := run(6, 2, 2, 3, 5, 5)
	sends(t, r, appendTo(2, 3, 6, 7, 2, 5, append(slices.Clone(l[2:]), noop(11, 6))...))
}

// Advance: what is committed is not committed again, even where Take has not told of it yet.
func TestAdvanceOnce(t *testing.T) {
	r := leading(1, 2, 3)
	r.Propose(api.Noop, "")
	r.Take()
	r.Step(matched(2, 1, 1, 1))
	l := []api.Msg{appendTo(1, 2, 1, 1, 1, 1, noop(2, 1)), appendTo(1, 3, 1, 0, 0, 1, noop(1, 1), noop(2, 1))}
	again := appendTo(1, 2, 1, 1, 1, 1, noop(2, 1))
	r.Step(matched(2, 1, 1, 1))
	r.Step(matched(2, 1, 1, 0))
	takes(t, r, raft.Ready{Hard: api.Hard{Term: 1, Vote: 1}, Committed: []api.Entry{noop(1, 1)}, Messages: append(l, again, again, again)})
}

// R3: answers of those that are no voters, or to those that do not lead, mean nothing.
func TestMatchedOthers(t *testing.T) {
	r := leading(1, 2, 3)
	steps(r, matched(4, 1, 1, 1), matched(9, 1, 1, 1), hint(4, 1, 1, 0))
	takes(t, r, done())
	is(t, r, raft.State{Role: raft.Leader, Term: 1, Vote: 1, Lead: 1, First: 1, Last: 1})
	for _, r := range roles()[:3] {
		before := r.State()
		steps(r, matched(2, 1, 1, 1), matched(3, 1, 1, 1), hint(2, 1, 1, 0))
		is(t, r, before)
		same(t, "Messages", r.Take().Messages, []api.Msg{})
	}
}

// Advance: only an entry of the leader's own term is counted, and then all ahead of it are committed.
func TestAdvanceTerm(t *testing.T) {
	r := five()
	ticks(r, 3)
	r.Step(voted(1, 2, 6, true))
	r.Take()
	steps(r, matched(1, 2, 6, 10), matched(3, 2, 6, 10))
	same(t, "Commit", r.State().Commit, 5)
	r.Take()
	r.Step(matched(1, 2, 6, 11))
	same(t, "Commit", r.State().Commit, 11)
	takes(t, r, raft.Ready{
		Hard: api.Hard{Term: 6, Vote: 2}, Committed: append(run(6, 2, 2, 3, 5, 5), noop(11, 6)),
		Messages: []api.Msg{appendTo(2, 1, 6, 11, 6, 11), appendTo(2, 3, 6, 10, 5, 11, noop(11, 6))},
	})
}

// To replicate: a voter that lies behind the base is sent the base, any other one at most 8 entries.
func TestReplicate(t *testing.T) {
	r := settled(1, 2, 3)
	for range 12 {
		r.Propose(api.Noop, "")
	}
	r.Step(matched(3, 1, 1, 13))
	r.Take()
	for i := 2; i <= 13; i++ {
		same(t, "Compact", r.Compact(i, "base"), api.OK)
		b := api.Base{Index: i, Term: 1, Voters: []int{1, 2, 3}, Data: "base"}
		same(t, "heartbeat", heart(r), []api.Msg{snapTo(1, 2, 1, b), appendTo(1, 3, 1, 13, 1, 13)})
	}
	b := r.Base()
	r.Step(hint(2, 1, 1, 13)) // next is 2 still, less one, but match + 1
	sends(t, r, snapTo(1, 2, 1, b))
	r.Step(matched(2, 1, 1, 13))
	same(t, "heartbeat", heart(r), []api.Msg{appendTo(1, 2, 1, 13, 1, 13), appendTo(1, 3, 1, 13, 1, 13)})
}

// To replicate: the Index of the base itself is no entry to send, but one to send entries behind.
func TestReplicateBase(t *testing.T) {
	r := settled(1, 2, 3)
	r.Propose(api.Noop, "")
	r.Propose(api.Noop, "")
	steps(r, matched(2, 1, 1, 2), matched(3, 1, 1, 3))
	r.Take()
	r.Compact(2, "")
	same(t, "heartbeat", heart(r), []api.Msg{appendTo(1, 2, 1, 2, 1, 3, noop(3, 1)), appendTo(1, 3, 1, 3, 1, 3)})
	r.Compact(3, "")
	b := api.Base{Index: 3, Term: 1, Voters: []int{1, 2, 3}}
	same(t, "heartbeat", heart(r), []api.Msg{snapTo(1, 2, 1, b), appendTo(1, 3, 1, 3, 1, 3)})
}

// R5: only a leader takes proposals, of the two kinds, not too long, and not too many that are under way.
func TestPropose(t *testing.T) {
	long := strings.Repeat("x", 65000)
	for _, r := range roles()[:3] {
		before := r.State()
		for _, kind := range []int{api.Command, api.Noop, api.Config, 0} {
			if n, e := r.Propose(kind, long+"x"); n != 0 || e != api.ErrLeader {
				t.Error(n, e)
			}
			if n, e := r.Propose(kind, ""); n != 0 || e != api.ErrLeader {
				t.Error(n, e)
			}
		}
		is(t, r, before)
		same(t, "Entries", r.Take().Entries, run(0))
	}
	r := settled(1, 2, 3)
	for _, kind := range []int{api.Config, 0, -1, 4, math.MinInt, math.MaxInt} {
		if n, e := r.Propose(kind, "a"); n != 0 || e != api.ErrArg {
			t.Error(kind, n, e)
		}
	}
	for _, kind := range []int{api.Command, api.Noop} {
		if n, e := r.Propose(kind, long+"x"); n != 0 || e != api.ErrArg {
			t.Error(kind, n, e)
		}
	}
	takes(t, r, done())
	for k, kind := range []int{api.Command, api.Noop} {
		if n, e := r.Propose(kind, long); n != k+2 || e != api.OK {
			t.Error(n, e)
		}
	}
	l := []api.Entry{{Index: 2, Term: 1, Kind: api.Command, Data: long}, {Index: 3, Term: 1, Kind: api.Noop, Data: long}}
	takes(t, r, raft.Ready{Hard: api.Hard{Term: 1, Vote: 1}, Entries: l, Messages: []api.Msg{
		appendTo(1, 2, 1, 1, 1, 1, l[0]), appendTo(1, 3, 1, 1, 1, 1, l[0]), appendTo(1, 2, 1, 1, 1, 1, l...), appendTo(1, 3, 1, 1, 1, 1, l...),
	}})
}

// R5: 60 entries that are not committed are enough; ErrArg comes ahead of ErrBusy.
func TestProposeBusy(t *testing.T) {
	r := leading(1, 2, 3) // with one of them
	for i := 2; i <= 60; i++ {
		if n, e := r.Propose(api.Command, "a"); n != i || e != api.OK {
			t.Error(n, e)
		}
	}
	for range 2 {
		if n, e := r.Propose(api.Noop, ""); n != 0 || e != api.ErrBusy {
			t.Error(n, e)
		}
		if n, e := r.Propose(api.Config, ""); n != 0 || e != api.ErrArg {
			t.Error(n, e)
		}
		if n, e := r.Propose(api.Command, strings.Repeat("x", 65001)); n != 0 || e != api.ErrArg {
			t.Error(n, e)
		}
	}
	same(t, "Last", r.State().Last, 60)
	r.Step(matched(3, 1, 1, 2))
	for i := 61; i <= 62; i++ {
		if n, e := r.Propose(api.Noop, ""); n != i || e != api.OK {
			t.Error(n, e)
		}
	}
	if n, e := r.Propose(api.Noop, ""); n != 0 || e != api.ErrBusy {
		t.Error(n, e)
	}
}

// R5: a voter that is added counts at once; it is told the change first, and by its answer all ahead of it.
func TestChangeAdds(t *testing.T) {
	r := settled(1, 2, 3)
	r.Propose(api.Noop, "")
	r.Take()
	if n, e := r.Change([]int{1, 2, 3, 4}); n != 3 || e != api.OK {
		t.Error(n, e)
	}
	same(t, "Voters", r.Voters(), []int{1, 2, 3, 4})
	c := config(3, 1, 1, 2, 3, 4)
	takes(t, r, raft.Ready{Hard: api.Hard{Term: 1, Vote: 1}, Entries: []api.Entry{c}, Messages: []api.Msg{
		appendTo(1, 2, 1, 1, 1, 1, noop(2, 1), c), appendTo(1, 3, 1, 1, 1, 1, noop(2, 1), c), appendTo(1, 4, 1, 2, 1, 1, c),
	}})
	r.Step(matched(2, 1, 1, 3)) // two of four
	same(t, "Commit", r.State().Commit, 1)
	r.Take()
	r.Step(hint(4, 1, 1, 0))
	sends(t, r, appendTo(1, 4, 1, 0, 0, 1, noop(1, 1), noop(2, 1), c))
	r.Step(matched(4, 1, 1, 3))
	same(t, "Commit", r.State().Commit, 3)
}

// R5: a voter that is removed does not count any more, nor is it told anything; added again, it starts anew.
func TestChangeRemoves(t *testing.T) {
	r := settled(1, 2, 3, 4)
	if n, e := r.Change([]int{1, 2, 3}); n != 2 || e != api.OK {
		t.Error(n, e)
	}
	c := config(2, 1, 1, 2, 3)
	takes(t, r, raft.Ready{Hard: api.Hard{Term: 1, Vote: 1}, Entries: []api.Entry{c}, Messages: []api.Msg{appendTo(1, 2, 1, 1, 1, 1, c), appendTo(1, 3, 1, 1, 1, 1, c)}})
	r.Step(matched(4, 1, 1, 2))
	same(t, "Commit", r.State().Commit, 1)
	takes(t, r, done())
	r.Step(matched(3, 1, 1, 2))
	same(t, "Commit", r.State().Commit, 2)
	r.Take()
	if n, e := r.Change([]int{1, 2, 3, 4}); n != 3 || e != api.OK {
		t.Error(n, e)
	}
	c = config(3, 1, 1, 2, 3, 4)
	sends(t, r, appendTo(1, 2, 1, 1, 1, 2, config(2, 1, 1, 2, 3), c), appendTo(1, 3, 1, 2, 1, 2, c), appendTo(1, 4, 1, 2, 1, 2, c))
	r.Step(hint(4, 1, 1, 0)) // that it matched up to 1 is forgotten
	sends(t, r, appendTo(1, 4, 1, 0, 0, 2, noop(1, 1), config(2, 1, 1, 2, 3), c))
}

// R5: a change that makes the majority smaller may commit what is there.
func TestChangeAdvances(t *testing.T) {
	r := settled(1, 2, 3, 4)
	r.Propose(api.Noop, "")
	r.Step(matched(2, 1, 1, 2)) // two of four have entry 2
	r.Take()
	r.Change([]int{1, 2, 3})
	c := config(3, 1, 1, 2, 3)
	takes(t, r, raft.Ready{Hard: api.Hard{Term: 1, Vote: 1}, Entries: []api.Entry{c}, Committed: []api.Entry{noop(2, 1)}, Messages: []api.Msg{
		appendTo(1, 2, 1, 2, 1, 1, c), appendTo(1, 3, 1, 1, 1, 1, noop(2, 1), c), appendTo(1, 2, 1, 2, 1, 2, c), appendTo(1, 3, 1, 1, 1, 2, noop(2, 1), c),
	}})
}

// R5: one change after the other, and none before the leader has committed an entry of its term; ErrBusy comes ahead of ErrArg.
func TestChangeBusy(t *testing.T) {
	for _, r := range roles()[:3] {
		for _, l := range [][]int{{1, 2, 3, 4}, nil} {
			if n, e := r.Change(l); n != 0 || e != api.ErrLeader {
				t.Error(n, e)
			}
		}
	}
	r := leading(1, 2, 3, 4)
	refused := func(r *raft.Raft, want api.Errno, voters ...int) {
		t.Helper()
		before := r.State()
		if n, e := r.Change(voters); n != 0 || e != want {
			t.Error(voters, n, e)
		}
		is(t, r, before)
	}
	refused(r, api.ErrBusy, 1, 2, 3)
	refused(r, api.ErrBusy, 7)
	steps(r, matched(2, 1, 1, 1), matched(3, 1, 1, 1))
	r.Propose(api.Noop, "") // other entries are no hindrance
	r.Take()
	for _, l := range [][]int{nil, {1}, {1, 2}, {1, 2, 3, 4}, {1, 2, 3, 5}, {1, 2, 3, 4, 5, 6}, {1, 2, 4, 3, 5}, {4, 3, 2}, {1, 2, 3, 3}, {1, 2, 3, 4, 10}, {0, 1, 2, 3, 4}} {
		refused(r, api.ErrArg, l...)
	}
	takes(t, r, done())
	if n, e := r.Change([]int{1, 2, 3, 4, 5}); n != 3 || e != api.OK {
		t.Error(n, e)
	}
	refused(r, api.ErrBusy, 1, 2, 3, 4)
	refused(r, api.ErrBusy, 1, 2, 3, 4, 5, 6)
	refused(r, api.ErrBusy, 7)
	r.Propose(api.Noop, "")
	refused(r, api.ErrBusy, 1, 2, 3, 4)
	steps(r, matched(2, 1, 1, 2), matched(3, 1, 1, 2))
	refused(r, api.ErrBusy, 1, 2, 3, 4)
	steps(r, matched(2, 1, 1, 3), matched(3, 1, 1, 3))
	if n, e := r.Change([]int{1, 2, 3, 4}); n != 5 || e != api.OK {
		t.Error(n, e)
	}
}

// R5: an entry of the Kind Config that sets no voters is in the way as well, and so is one of an older term.
func TestChangeBusyOld(t *testing.T) {
	for _, x := range []api.Entry{{Index: 1, Term: 1, Kind: api.Config, Data: "wrong"}, config(1, 1, 1, 2, 3)} {
		r := raft.New(1, api.Hard{Term: 1}, api.Base{Voters: []int{1, 2, 3}}, []api.Entry{x}, 1)
		ticks(r, 1)
		r.Step(voted(2, 1, 2, true))
		if n, e := r.Change([]int{1, 2, 3, 4}); n != 0 || e != api.ErrBusy {
			t.Error(n, e)
		}
		r.Step(matched(2, 1, 2, 1))
		if n, e := r.Change([]int{1, 2, 3, 4}); n != 0 || e != api.ErrBusy {
			t.Error(n, e)
		}
		r.Step(matched(2, 1, 2, 2))
		if n, e := r.Change([]int{1, 2, 3, 4}); n != 3 || e != api.OK {
			t.Error(n, e)
		}
	}
	r := raft.New(1, api.Hard{Term: 5}, base(4, 5, 1, 2, 3), nil, 1) // a Config that is the node's own term's, and no entry of it
	ticks(r, 1)
	r.Step(voted(2, 1, 6, true))
	r.Step(appendTo(2, 1, 5, 4, 5, 4))
	if n, e := r.Change([]int{1, 2, 3, 4}); n != 0 || e != api.ErrBusy {
		t.Error(n, e)
	}
}

// R5: 60 entries under way are no hindrance to a change.
func TestChangePending(t *testing.T) {
	r := settled(1, 2, 3)
	for range 60 {
		r.Propose(api.Noop, "")
	}
	if n, e := r.Change([]int{1, 2, 3, 4}); n != 62 || e != api.OK {
		t.Error(n, e)
	}
	if n, e := r.Propose(api.Noop, ""); n != 0 || e != api.ErrBusy {
		t.Error(n, e)
	}
}

// Advance: a leader that is removed leads on until that is committed, without counting itself; then it is a follower.
func TestChangeSelf(t *testing.T) {
	r := settled(1, 2, 3, 4)
	r.Propose(api.Noop, "")
	if n, e := r.Change([]int{2, 3, 4}); n != 3 || e != api.OK {
		t.Error(n, e)
	}
	same(t, "Voters", r.Voters(), []int{2, 3, 4})
	r.Take()
	r.Step(matched(2, 1, 1, 3))
	is(t, r, raft.State{Role: raft.Leader, Term: 1, Vote: 1, Lead: 1, Commit: 1, First: 1, Last: 3})
	r.Step(matched(3, 1, 1, 2)) // entry 2 is committed, at which it is a voter
	is(t, r, raft.State{Role: raft.Leader, Term: 1, Vote: 1, Lead: 1, Commit: 2, First: 1, Last: 3})
	if n, e := r.Propose(api.Noop, ""); n != 4 || e != api.OK {
		t.Error(n, e)
	}
	c := config(3, 1, 2, 3, 4)
	same(t, "heartbeat", heart(r), []api.Msg{appendTo(1, 2, 1, 3, 1, 2, noop(4, 1)), appendTo(1, 3, 1, 2, 1, 2, c, noop(4, 1)), appendTo(1, 4, 1, 1, 1, 2, noop(2, 1), c, noop(4, 1))})
	ticks(r, 1)
	r.Step(matched(3, 1, 1, 3))
	is(t, r, raft.State{Term: 1, Vote: 1, Commit: 3, First: 1, Last: 4})
	takes(t, r, raft.Ready{Hard: api.Hard{Term: 1, Vote: 1}, Committed: []api.Entry{c}, Messages: []api.Msg{
		appendTo(1, 2, 1, 3, 1, 3, noop(4, 1)), appendTo(1, 3, 1, 3, 1, 3, noop(4, 1)), appendTo(1, 4, 1, 1, 1, 3, noop(2, 1), c, noop(4, 1)),
	}})
	r.Step(matched(4, 1, 1, 4)) // it doesn't lead any more
	ticks(r, 20)
	takes(t, r, raft.Ready{Hard: api.Hard{Term: 1, Vote: 1}})
	_, e := r.Propose(api.Noop, "")
	same(t, "Propose", e, api.ErrLeader)
}

// Advance: a leader that was removed may be a voter again.
func TestChangeSelfBack(t *testing.T) {
	r := settled(1, 2, 3, 4)
	r.Change([]int{2, 3, 4})
	steps(r, matched(2, 1, 1, 2), matched(3, 1, 1, 2))
	is(t, r, raft.State{Term: 1, Vote: 1, Commit: 2, First: 1, Last: 2})
	ticks(r, 9)
	r.Step(appendTo(2, 1, 2, 2, 1, 2, config(3, 2, 1, 2, 3, 4)))
	ticks(r, 2)
	is(t, r, raft.State{Term: 2, Lead: 2, Commit: 2, First: 1, Last: 3})
	ticks(r, 1)
	is(t, r, raft.State{Role: raft.Candidate, Term: 3, Vote: 1, Commit: 2, First: 1, Last: 3})
}

// Advance: without a commit a leader that lags behind with its majority stays.
func TestChangeSelfBehind(t *testing.T) {
	r := raft.New(1, api.Hard{}, api.Base{Voters: []int{2, 3, 4, 5}}, []api.Entry{config(1, 0, 1, 2, 3, 4, 5)}, 1)
	ticks(r, 1)
	steps(r, voted(2, 1, 1, true), voted(3, 1, 1, true))
	steps(r, matched(2, 1, 1, 2), matched(3, 1, 1, 2))
	same(t, "Commit", r.State().Commit, 2)
	if n, e := r.Change([]int{2, 3, 4, 5}); n != 3 || e != api.OK { // a majority of these has nothing yet
		t.Error(n, e)
	}
	is(t, r, raft.State{Role: raft.Leader, Term: 1, Vote: 1, Lead: 1, Commit: 2, First: 1, Last: 3})
}
