package raft_test

import (
	"testing"

	"kiosk/api"
	"kiosk/raft"
)

// R2: at the timeout a voter asks for votes, and again at the next one, in a greater term.
func TestElection(t *testing.T) {
	r := five()
	ticks(r, 2)
	is(t, r, raft.State{Term: 5, Commit: 5, First: 6, Last: 10})
	takes(t, r, raft.Ready{Hard: api.Hard{Term: 5}})
	for term := 6; term <= 8; term++ {
		ticks(r, 1)
		is(t, r, raft.State{Role: raft.Candidate, Term: term, Vote: 2, Commit: 5, First: 6, Last: 10})
		takes(t, r, raft.Ready{Hard: api.Hard{Term: term, Vote: 2}, Messages: []api.Msg{vote(2, 1, term, 10, 5), vote(2, 3, term, 10, 5)}})
		ticks(r, 2)
		takes(t, r, raft.Ready{Hard: api.Hard{Term: term, Vote: 2}})
	}
}

// R2: without entries it is the base that the votes are asked for.
func TestElectionBase(t *testing.T) {
	r := raft.New(2, api.Hard{Term: 8, Vote: 3}, base(7, 4, 1, 2, 3), nil, 1)
	ticks(r, 1)
	takes(t, r, raft.Ready{Hard: api.Hard{Term: 9, Vote: 2}, Messages: []api.Msg{vote(2, 1, 9, 7, 4), vote(2, 3, 9, 7, 4)}})
}

// R2: a follower forgets its leader when it asks for votes.
func TestElectionLead(t *testing.T) {
	r := fresh(2)
	r.Step(appendTo(1, 2, 1, 0, 0, 0))
	is(t, r, raft.State{Term: 1, Lead: 1, First: 1})
	ticks(r, 3)
	is(t, r, raft.State{Role: raft.Candidate, Term: 2, Vote: 2, First: 1})
}

// R2: the votes of the election before don't count.
func TestElectionAnew(t *testing.T) {
	r := raft.New(1, api.Hard{}, api.Base{Voters: []int{1, 2, 3, 4, 5}}, nil, 3)
	ticks(r, 3)
	r.Step(voted(2, 1, 1, true))
	ticks(r, 3)
	r.Step(voted(3, 1, 2, true))
	is(t, r, raft.State{Role: raft.Candidate, Term: 2, Vote: 1, First: 1})
	r.Step(voted(2, 1, 2, true))
	is(t, r, raft.State{Role: raft.Leader, Term: 2, Vote: 1, Lead: 1, First: 1, Last: 1})
}

// R2: one that is no voter asks for none; what has elapsed becomes 0 for it, too.
func TestNoVoter(t *testing.T) {
	r := raft.New(4, api.Hard{}, api.Base{Voters: []int{1, 2, 3}}, nil, 5)
	ticks(r, 50)
	takes(t, r, raft.Ready{})
	r.Step(appendTo(1, 4, 1, 0, 0, 0))
	ticks(r, 5)
	r.Step(vote(2, 4, 2, 0, 0)) // it knows a leader, and nothing has elapsed: it doesn't listen
	is(t, r, raft.State{Term: 1, Lead: 1, First: 1})
	ticks(r, 4)
	r.Step(vote(2, 4, 2, 0, 0))
	is(t, r, raft.State{Term: 2, Vote: 2, First: 1})

	r = raft.New(1, api.Hard{}, api.Base{}, nil, 1)
	ticks(r, 9)
	takes(t, r, raft.Ready{})
}

// R2: the voters are those of the last entry: one that was added votes, one that was removed does not.
func TestVotersElect(t *testing.T) {
	l := []api.Entry{config(1, 1, 2, 3, 4)}
	r := raft.New(4, api.Hard{Term: 1}, api.Base{Voters: []int{1, 2, 3, 4}}, l, 2)
	ticks(r, 2)
	sends(t, r, vote(4, 2, 2, 1, 1), vote(4, 3, 2, 1, 1))
	r = raft.New(1, api.Hard{Term: 1}, api.Base{Voters: []int{1, 2, 3, 4}}, l, 2)
	ticks(r, 9)
	takes(t, r, raft.Ready{Hard: api.Hard{Term: 1}})
}

// R2: a single voter is a majority by itself, and has all that it adds committed.
func TestSingle(t *testing.T) {
	r := raft.New(7, api.Hard{Term: 3}, base(4, 2, 7), nil, 2)
	ticks(r, 2)
	is(t, r, raft.State{Role: raft.Leader, Term: 4, Vote: 7, Lead: 7, Commit: 5, First: 5, Last: 5})
	takes(t, r, raft.Ready{Hard: api.Hard{Term: 4, Vote: 7}, Entries: []api.Entry{noop(5, 4)}, Committed: []api.Entry{noop(5, 4)}})
	if n, e := r.Propose(api.Command, "a"); n != 6 || e != api.OK {
		t.Error(n, e)
	}
	a := []api.Entry{{Index: 6, Term: 4, Kind: api.Command, Data: "a"}}
	takes(t, r, raft.Ready{Hard: api.Hard{Term: 4, Vote: 7}, Entries: a, Committed: a})
}

// R2: half of the voters is not enough.
func TestTwo(t *testing.T) {
	r := raft.New(1, api.Hard{}, base(0, 0, 1, 2), nil, 1)
	ticks(r, 1)
	is(t, r, raft.State{Role: raft.Candidate, Term: 1, Vote: 1, First: 1})
	r.Step(voted(2, 1, 1, true))
	is(t, r, raft.State{Role: raft.Leader, Term: 1, Vote: 1, Lead: 1, First: 1, Last: 1})
}

// R2: messages go to each other voter once, in increasing order, even if the voters of the first base don't rise.
func TestOrder(t *testing.T) {
	r := raft.New(3, api.Hard{}, api.Base{Voters: []int{5, 3, 1, 4, 1, 2}}, nil, 1)
	ticks(r, 1)
	sends(t, r, vote(3, 1, 1, 0, 0), vote(3, 2, 1, 0, 0), vote(3, 4, 1, 0, 0), vote(3, 5, 1, 0, 0))
}

// R2: a leader replicates at every second tick, whatever its timeout is, and never asks for votes.
func TestHeartbeat(t *testing.T) {
	for _, timeout := range []int{-1, 0, 1, 3, 1000} {
		r := leading(1, 2, 3)
		r.Timeout(timeout)
		for range 20 {
			ticks(r, 1)
			takes(t, r, raft.Ready{Hard: api.Hard{Term: 1, Vote: 1}})
			ticks(r, 1)
			takes(t, r, raft.Ready{
				Hard:     api.Hard{Term: 1, Vote: 1},
				Messages: []api.Msg{appendTo(1, 2, 1, 0, 0, 0, noop(1, 1)), appendTo(1, 3, 1, 0, 0, 0, noop(1, 1))},
			})
		}
		is(t, r, raft.State{Role: raft.Leader, Term: 1, Vote: 1, Lead: 1, First: 1, Last: 1})
	}
}

// R2: what a leader sends between its heartbeats does not put them off.
func TestHeartbeatBetween(t *testing.T) {
	r := settled(1, 2, 3)
	ticks(r, 1)
	r.Propose(api.Command, "a")
	steps(r, matched(2, 1, 1, 2), matched(3, 1, 1, 2))
	r.Take()
	ticks(r, 1)
	sends(t, r, appendTo(1, 2, 1, 2, 1, 2), appendTo(1, 3, 1, 2, 1, 2))
}
