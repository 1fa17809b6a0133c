package raft_test

import (
	"slices"
	"strings"
	"testing"

	"kiosk/api"
	"kiosk/raft"
)

// roles are node 1 of 1, 2, 3 in each role, in term 1, with entry 1 of term 1 at the most: a follower, one with a leader, a candidate, a leader.
func roles() []*raft.Raft {
	plain := raft.New(1, api.Hard{Term: 1}, api.Base{Voters: []int{1, 2, 3}}, nil, 3)
	led, asking := fresh(1), fresh(1)
	led.Step(appendTo(2, 1, 1, 0, 0, 0))
	ticks(asking, 3)
	l := []*raft.Raft{plain, led, asking, leading(1, 2, 3)}
	for _, r := range l {
		r.Take()
	}
	return l
}

// ignores looks whether a message changes nothing, and is not answered, in whatever role.
func ignores(t *testing.T, m api.Msg) {
	t.Helper()
	for role, r := range roles() {
		before, other := r.State(), roles()[role]
		r.Step(m)
		is(t, r, before)
		for range 4 { // what has elapsed is as it was
			if got, want := shown(r.Take()), shown(other.Take()); got != want {
				t.Errorf("role %d, %s: %s", role, brief(shown(m)), brief(got))
			}
			r.Tick()
			other.Tick()
		}
	}
}

// R3: what is not valid, not for this node, from itself or no message between nodes is not looked at.
func TestStepIgnores(t *testing.T) {
	right := []api.Msg{
		vote(2, 1, 2, 9, 9), voted(2, 1, 1, true), appendTo(2, 1, 2, 0, 0, 0, entry(1, 2)), hint(2, 1, 1, 0), matched(2, 1, 1, 1), snapTo(2, 1, 2, base(9, 2, 1, 2)),
	}
	for _, wrong := range []func(m *api.Msg){
		func(m *api.Msg) { m.Kind = api.MForward },
		func(m *api.Msg) { m.Kind = 0 },
		func(m *api.Msg) { m.Kind = 7 },
		func(m *api.Msg) { m.From = 0 },
		func(m *api.Msg) { m.From = 1 },
		func(m *api.Msg) { m.From = 10 },
		func(m *api.Msg) { m.To = 2 },
		func(m *api.Msg) { m.To = 0 },
		func(m *api.Msg) { m.Term = -1 },
		func(m *api.Msg) { m.Term = 1<<40 + 1 },
		func(m *api.Msg) { m.Index = -1 },
		func(m *api.Msg) { m.LogTerm = 1<<40 + 1 },
		func(m *api.Msg) { m.Commit = -1 },
		func(m *api.Msg) { m.Entries = run(m.Index+1, 1, 1, 1, 1, 1, 1, 1, 1, 1) },
		func(m *api.Msg) { m.Entries = []api.Entry{{Index: m.Index + 1, Term: 1, Kind: 4}} },
		func(m *api.Msg) { m.Entries = []api.Entry{{Index: m.Index + 1, Term: -1, Kind: 1}} },
		func(m *api.Msg) { m.Base.Voters = []int{2, 1} },
		func(m *api.Msg) { m.Base.Term = -1 },
		func(m *api.Msg) { m.Data = strings.Repeat("x", 4000001) },
	} {
		for _, m := range right {
			wrong(&m)
			ignores(t, m)
		}
	}
	for _, m := range []api.Msg{
		snapTo(2, 1, 2, api.Base{Index: 0, Term: 1, Voters: []int{1, 2, 3}}),
		snapTo(2, 1, 2, api.Base{Index: 9, Term: 1}),
		snapTo(2, 1, 2, api.Base{Index: 9, Term: 1, Voters: []int{}}),
	} {
		ignores(t, m)
	}
}

// R3: the entries of an MAppend have to lie behind its Index, without a gap, and must not be too long.
func TestStepEntries(t *testing.T) {
	long := api.Entry{Index: 1, Term: 1, Kind: api.Command, Data: strings.Repeat("x", 65001)}
	for _, m := range []api.Msg{
		appendTo(2, 1, 2, 0, 0, 0, entry(2, 1)),
		appendTo(2, 1, 2, 0, 0, 0, entry(0, 1)),
		appendTo(2, 1, 2, 0, 0, 0, entry(1, 1), entry(1, 1)),
		appendTo(2, 1, 2, 0, 0, 0, entry(1, 1), entry(3, 1)),
		appendTo(2, 1, 2, 0, 0, 0, entry(1, 1), entry(2, 1), entry(2, 1)),
		appendTo(2, 1, 2, 0, 0, 0, append(run(1, 1, 1, 1, 1, 1, 1, 1), entry(9, 1))...),
		appendTo(2, 1, 2, 1, 1, 0, entry(1, 1)),
		appendTo(2, 1, 2, 0, 0, 0, long),
		appendTo(2, 1, 2, 0, 0, 0, entry(1, 1), api.Entry{Index: 2, Term: 1, Kind: api.Config, Data: long.Data}),
	} {
		ignores(t, m)
	}
	long.Data = long.Data[1:]
	r := fresh(1)
	r.Step(appendTo(2, 1, 2, 0, 0, 0, append([]api.Entry{long}, run(2, 1, 1, 1, 1, 1, 1, 2)...)...))
	takes(t, r, raft.Ready{Hard: api.Hard{Term: 2}, Messages: []api.Msg{matched(1, 2, 2, 8)}, Entries: append([]api.Entry{long}, run(2, 1, 1, 1, 1, 1, 1, 2)...)})
}

// R3: what is asked of the entries and the base is asked of those kinds alone that use them.
func TestStepUnused(t *testing.T) {
	odd := []api.Entry{{Index: 5, Term: 9, Kind: 3, Data: strings.Repeat("x", 65001)}, {Index: 5, Kind: 1}}
	for _, m := range []api.Msg{vote(2, 1, 2, 9, 9), voted(2, 1, 2, true), hint(2, 1, 2, 7), snapTo(2, 1, 2, base(1, 1, 1)), appendTo(2, 1, 2, 0, 0, 0)} {
		if m.Kind != api.MAppend {
			m.Entries = odd
		}
		m.Data, m.Commit = "unused", 1<<40
		r := fresh(1)
		r.Step(m)
		if s := r.State(); s.Term != 2 || s.Commit > 1 {
			t.Error(m, s)
		}
	}
	r := fresh(1) // the base of an MAppend, too
	m := appendTo(2, 1, 2, 0, 0, 0)
	m.Base = api.Base{Term: 9}
	r.Step(m)
	is(t, r, raft.State{Term: 2, Lead: 2, First: 1})
}

// R3: whoever knows a leader, and has heard from it, is not disturbed by votes that are asked for in a greater term.
func TestContent(t *testing.T) {
	for elapsed := range 8 {
		for id := 1; id <= 3; id++ {
			lead, other := id%3+1, (id+1)%3+1
			r := raft.New(id, api.Hard{}, api.Base{Voters: []int{1, 2, 3}}, nil, 9)
			r.Step(appendTo(lead, id, 1, 0, 0, 0))
			ticks(r, elapsed)
			r.Take()
			r.Step(vote(other, id, 2, 0, 0))
			if elapsed < 4 {
				is(t, r, raft.State{Term: 1, Lead: lead, First: 1})
				takes(t, r, raft.Ready{Hard: api.Hard{Term: 1}})
			} else {
				is(t, r, raft.State{Term: 2, Vote: other, First: 1})
				takes(t, r, raft.Ready{Hard: api.Hard{Term: 2, Vote: other}, Messages: []api.Msg{voted(id, other, 2, true)}})
			}
		}
	}
	for role, r := range roles() { // without a leader votes are given at once
		r.Step(vote(3, 1, 2, 9, 9))
		want := raft.Ready{Hard: api.Hard{Term: 1, Vote: []int{0, 0, 1, 1}[role]}}
		if role%2 == 0 {
			want = raft.Ready{Hard: api.Hard{Term: 2, Vote: 3}, Messages: []api.Msg{voted(1, 3, 2, true)}}
		}
		takes(t, r, want)
	}
}

// R3: in the same term, and in a lesser one, votes that are asked for are answered by those who know a leader, too.
func TestContentSame(t *testing.T) {
	for role, r := range roles() {
		steps(r, vote(3, 1, 0, 9, 9), vote(3, 1, 1, 9, 9))
		sends(t, r, voted(1, 3, 1, false), voted(1, 3, 1, role < 2))
	}
}

// R3: a greater term makes anybody a follower that has not voted and knows no leader.
func TestStepDown(t *testing.T) {
	for _, m := range []api.Msg{voted(2, 1, 4, true), voted(3, 1, 4, false), hint(2, 1, 4, 0), matched(3, 1, 4, 1)} {
		for role, r := range roles() {
			r.Step(m)
			is(t, r, raft.State{Term: 4, First: 1, Last: role / 3})
			takes(t, r, raft.Ready{Hard: api.Hard{Term: 4}})
			_, e := r.Propose(api.Command, "")
			same(t, "Propose", e, api.ErrLeader)
		}
	}
	for role, r := range roles() {
		r.Step(appendTo(3, 1, 4, 7, 4, 0))
		is(t, r, raft.State{Term: 4, Lead: 3, First: 1, Last: role / 3})
		takes(t, r, raft.Ready{Hard: api.Hard{Term: 4}, Messages: []api.Msg{hint(1, 3, 4, role/3)}})
		r.Step(snapTo(2, 1, 5, base(7, 4, 1, 2)))
		is(t, r, raft.State{Term: 5, Lead: 2, Commit: 7, First: 8, Last: 7})
		takes(t, r, raft.Ready{Hard: api.Hard{Term: 5}, Snap: base(7, 4, 1, 2), Messages: []api.Msg{matched(1, 2, 5, 7)}})
	}
}

// R3: a greater term does not put off the election: what has elapsed stays.
func TestStepDownElapsed(t *testing.T) {
	for _, m := range []api.Msg{voted(2, 1, 4, true), hint(2, 1, 4, 0), vote(2, 1, 4, 0, 0)} {
		r := raft.New(1, api.Hard{Term: 1}, api.Base{Voters: []int{1, 2, 3}}, run(1, 1), 3)
		ticks(r, 2)
		r.Step(m) // the vote is not granted: entry 1 is lacking there
		is(t, r, raft.State{Term: 4, First: 1, Last: 1})
		ticks(r, 1)
		is(t, r, raft.State{Role: raft.Candidate, Term: 5, Vote: 1, First: 1, Last: 1})
	}
	r := leading(1, 2, 3)
	ticks(r, 3) // one since the heartbeat
	r.Step(voted(2, 1, 4, true))
	ticks(r, 1)
	is(t, r, raft.State{Term: 4, First: 1, Last: 1})
	ticks(r, 1)
	is(t, r, raft.State{Role: raft.Candidate, Term: 5, Vote: 1, First: 1, Last: 1})
}

// R3: who asks in a term that is over is told the term, and nothing else happens.
func TestStale(t *testing.T) {
	for _, term := range []int{0, 4} {
		for _, c := range []struct {
			m    api.Msg
			want []api.Msg
		}{
			{vote(3, 2, term, 99, 99), []api.Msg{voted(2, 3, 5, false)}},
			{appendTo(3, 2, term, 10, 5, 10, entry(11, 5)), []api.Msg{hint(2, 3, 5, 0)}},
			{appendTo(3, 2, term, 99, 5, 10), []api.Msg{hint(2, 3, 5, 0)}},
			{snapTo(3, 2, term, base(20, 4, 1, 2, 3)), []api.Msg{hint(2, 3, 5, 0)}},
			{voted(3, 2, term, true), nil},
			{matched(3, 2, term, 10), nil},
			{hint(3, 2, term, 10), nil},
		} {
			r := five()
			ticks(r, 2)
			r.Step(c.m)
			is(t, r, raft.State{Term: 5, Commit: 5, First: 6, Last: 10})
			takes(t, r, raft.Ready{Hard: api.Hard{Term: 5}, Messages: c.want})
			ticks(r, 1) // nothing was put off
			is(t, r, raft.State{Role: raft.Candidate, Term: 6, Vote: 2, Commit: 5, First: 6, Last: 10})
		}
	}
}

// R3: a candidate takes no votes of another term, and a leader no answers of one that is over.
func TestStaleAnswers(t *testing.T) {
	r := raft.New(1, api.Hard{Term: 3}, api.Base{Voters: []int{1, 2, 3}}, nil, 1)
	ticks(r, 1)
	r.Step(voted(2, 1, 3, true))
	same(t, "Role", r.State().Role, raft.Candidate)
	r.Step(voted(2, 1, 4, true))
	same(t, "Role", r.State().Role, raft.Leader)
	r.Take()
	steps(r, matched(2, 1, 3, 1), hint(3, 1, 3, 0))
	takes(t, r, raft.Ready{Hard: api.Hard{Term: 4, Vote: 1}})
	is(t, r, raft.State{Role: raft.Leader, Term: 4, Vote: 1, Lead: 1, First: 1, Last: 1})
}

// R3: one vote a term, for a log that is at least as new: a greater last term, or the same one and no lesser Index.
func TestVote(t *testing.T) {
	for _, c := range []struct {
		index, logTerm int
		ok             bool
	}{
		{10, 5, true}, {11, 5, true}, {9, 5, false}, {0, 5, false}, {0, 6, true}, {9, 6, true}, {10, 4, false}, {99, 4, false}, {1 << 40, 0, false},
	} {
		r := five()
		ticks(r, 2)
		r.Take()
		r.Step(vote(3, 2, 5, c.index, c.logTerm))
		if c.ok {
			takes(t, r, raft.Ready{Hard: api.Hard{Term: 5, Vote: 3}, Messages: []api.Msg{voted(2, 3, 5, true)}})
			ticks(r, 2) // nothing has elapsed
			is(t, r, raft.State{Term: 5, Vote: 3, Commit: 5, First: 6, Last: 10})
			ticks(r, 1)
			is(t, r, raft.State{Role: raft.Candidate, Term: 6, Vote: 2, Commit: 5, First: 6, Last: 10})
		} else {
			takes(t, r, raft.Ready{Hard: api.Hard{Term: 5}, Messages: []api.Msg{voted(2, 3, 5, false)}})
			ticks(r, 1)
			is(t, r, raft.State{Role: raft.Candidate, Term: 6, Vote: 2, Commit: 5, First: 6, Last: 10})
		}
	}
}

// R3: who has voted votes again for the same one, and for no other in that term.
func TestVoteOnce(t *testing.T) {
	r := five()
	steps(r, vote(3, 2, 5, 9, 5), vote(3, 2, 5, 10, 5), vote(1, 2, 5, 99, 9), vote(3, 2, 5, 10, 5), vote(3, 2, 5, 9, 5), vote(1, 2, 6, 10, 5), vote(3, 2, 6, 99, 9))
	sends(t, r, voted(2, 3, 5, false), voted(2, 3, 5, true), voted(2, 1, 5, false), voted(2, 3, 5, true), voted(2, 3, 5, false), voted(2, 1, 6, true), voted(2, 3, 6, false))
	r = raft.New(2, api.Hard{Term: 5, Vote: 1}, base(5, 2, 1, 2, 3), nil, 3) // what it had stored counts
	steps(r, vote(3, 2, 5, 9, 5), vote(1, 2, 5, 9, 5))
	sends(t, r, voted(2, 3, 5, false), voted(2, 1, 5, true))
	r = fresh(2)
	ticks(r, 3)
	r.Take()
	r.Step(vote(1, 2, 1, 9, 9)) // its own vote
	sends(t, r, voted(2, 1, 1, false))
}

// R3: votes are given to those that are no voters as well, and by one that is none.
func TestVoteStranger(t *testing.T) {
	r := fresh(2)
	r.Step(vote(9, 2, 1, 0, 0))
	sends(t, r, voted(2, 9, 1, true))
	r = fresh(8)
	r.Step(vote(9, 8, 1, 0, 0))
	sends(t, r, voted(8, 9, 1, true))
}

// R3: only votes that are granted, each once, and only by voters, make a candidate a leader.
func TestVoted(t *testing.T) {
	for _, c := range []struct {
		voters []int
		l      []api.Msg
		lead   bool
	}{
		{[]int{1, 2, 3}, []api.Msg{voted(2, 1, 1, true)}, true},
		{[]int{1, 2, 3}, []api.Msg{voted(3, 1, 1, true)}, true},
		{[]int{1, 2, 3}, []api.Msg{voted(2, 1, 1, false), voted(3, 1, 1, false)}, false},
		{[]int{1, 2, 3}, []api.Msg{voted(4, 1, 1, true), voted(5, 1, 1, true)}, false},
		{[]int{1, 2, 3, 4}, []api.Msg{voted(2, 1, 1, true), voted(2, 1, 1, true)}, false},
		{[]int{1, 2, 3, 4}, []api.Msg{voted(4, 1, 1, true), voted(2, 1, 1, true)}, true},
		{[]int{1, 2, 3, 4, 5}, []api.Msg{voted(5, 1, 1, true), voted(4, 1, 1, false), voted(5, 1, 1, true), voted(6, 1, 1, true)}, false},
		{[]int{1, 2, 3, 4, 5}, []api.Msg{voted(5, 1, 1, true), voted(3, 1, 1, true)}, true},
		{[]int{1, 2, 3, 4, 5, 6, 7}, []api.Msg{voted(5, 1, 1, true), voted(3, 1, 1, true)}, false},
		{[]int{1, 2, 3, 4, 5, 6, 7}, []api.Msg{voted(5, 1, 1, true), voted(3, 1, 1, true), voted(7, 1, 1, true)}, true},
	} {
		r := raft.New(1, api.Hard{}, api.Base{Voters: c.voters}, nil, 3)
		ticks(r, 3)
		steps(r, c.l...)
		if lead := r.State().Role == raft.Leader; lead != c.lead {
			t.Error(c.voters, c.l, lead)
		}
	}
}

// R3: votes that are granted mean nothing to a follower, and nothing to one that leads already.
func TestVotedOthers(t *testing.T) {
	r := raft.New(1, api.Hard{Term: 1, Vote: 1}, api.Base{Voters: []int{1, 2, 3}}, nil, 3)
	steps(r, voted(2, 1, 1, true), voted(3, 1, 1, true))
	takes(t, r, raft.Ready{Hard: api.Hard{Term: 1, Vote: 1}})
	is(t, r, raft.State{Term: 1, Vote: 1, First: 1})
	r = leading(1, 2, 3)
	r.Step(voted(3, 1, 1, true))
	takes(t, r, raft.Ready{Hard: api.Hard{Term: 1, Vote: 1}})
	r = fresh(1) // nor to one that was a candidate
	ticks(r, 3)
	steps(r, appendTo(3, 1, 1, 0, 0, 0), voted(2, 1, 1, true))
	is(t, r, raft.State{Term: 1, Vote: 1, Lead: 3, First: 1})
}

// R3: an MAppend makes a follower of anybody but a leader, and nothing has elapsed then, whether it matches or not.
func TestAppendRoles(t *testing.T) {
	for _, index := range []int{0, 7} {
		for role, r := range roles()[:3] {
			ticks(r, 1)
			r.Take()
			r.Step(appendTo(3, 1, 1, index, 1, 0))
			is(t, r, raft.State{Term: 1, Vote: role / 2, Lead: 3, First: 1})
			ticks(r, 2)
			is(t, r, raft.State{Term: 1, Vote: role / 2, Lead: 3, First: 1})
			ticks(r, 1)
			is(t, r, raft.State{Role: raft.Candidate, Term: 2, Vote: 1, First: 1})
		}
	}
	r := leading(1, 2, 3)
	r.Step(appendTo(3, 1, 1, 0, 0, 1, entry(1, 1)))
	is(t, r, raft.State{Role: raft.Leader, Term: 1, Vote: 1, Lead: 1, First: 1, Last: 1})
	takes(t, r, raft.Ready{Hard: api.Hard{Term: 1, Vote: 1}})
}

// R3: what doesn't match is answered with a hint, and nothing is committed.
func TestAppendHint(t *testing.T) {
	for _, c := range []struct{ index, logTerm, hint int }{
		{11, 5, 10}, {12, 5, 10}, {1<<40 - 1, 9, 10}, {10, 4, 9}, {10, 6, 9}, {9, 4, 8}, {8, 2, 7}, {6, 1, 5}, {6, 0, 5},
	} {
		r := five()
		r.Step(appendTo(3, 2, 5, c.index, c.logTerm, 10, entry(c.index+1, 5)))
		is(t, r, raft.State{Term: 5, Lead: 3, Commit: 5, First: 6, Last: 10})
		takes(t, r, raft.Ready{Hard: api.Hard{Term: 5}, Messages: []api.Msg{hint(2, 3, 5, c.hint)}})
	}
}

// R3: what matches is taken over, and committed as far as the message tells and reaches.
func TestAppendMatch(t *testing.T) {
	for _, c := range []struct {
		index, logTerm, commit int
		l                      []api.Entry
		matched, committed     int
		stored                 []api.Entry
	}{
		{10, 5, 0, nil, 10, 5, nil},
		{10, 5, 7, nil, 10, 7, nil},
		{10, 5, 10, nil, 10, 10, nil},
		{10, 5, 99, nil, 10, 10, nil},
		{7, 2, 99, nil, 7, 7, nil}, // the rest of the log may be another one
		{7, 2, 6, nil, 7, 6, nil},
		{5, 2, 99, nil, 5, 5, nil},
		{5, 9, 99, nil, 5, 5, nil},                                            // up to the commit index nothing is compared
		{3, 9, 99, run(4, 9, 9), 5, 5, nil},                                   // nor changed
		{3, 9, 99, run(4, 9, 9, 4), 6, 6, run(6, 4)},                          // behind it, it is
		{7, 2, 99, run(8, 3, 5), 9, 9, nil},                                   // it has these
		{7, 2, 8, run(8, 3, 6), 9, 8, run(9, 6)},                              // others in their place
		{10, 5, 12, run(11, 5, 5, 5), 13, 12, run(11, 5, 5, 5)},               // more
		{9, 5, 1 << 40, run(10, 5, 5), 11, 11, run(11, 5)},                    // both
		{8, 3, 9, run(9, 5, 4, 4, 5), 12, 9, run(10, 4, 4, 5)},                // both
		{6, 2, 5, run(7, 2, 3, 5, 5, 5, 5, 5, 5), 14, 5, run(11, 5, 5, 5, 5)}, // a full message
	} {
		r := five()
		r.Step(appendTo(3, 2, 5, c.index, c.logTerm, c.commit, c.l...))
		last := 10
		if len(c.stored) > 0 {
			last = c.stored[len(c.stored)-1].Index
		}
		is(t, r, raft.State{Term: 5, Lead: 3, Commit: c.committed, First: 6, Last: last})
		x := r.Take()
		same(t, "Messages", x.Messages, []api.Msg{matched(2, 3, 5, c.matched)})
		same(t, "Entries", x.Entries, c.stored)
		same(t, "Committed", len(x.Committed), c.committed-5)
	}
}

// R3: the commit index never decreases, and what is committed is not replaced.
func TestAppendCommitted(t *testing.T) {
	r := five()
	steps(r, appendTo(3, 2, 5, 10, 5, 9), appendTo(3, 2, 5, 10, 5, 6), appendTo(3, 2, 5, 6, 2, 7), appendTo(1, 2, 6, 6, 9, 99, run(7, 9, 9, 9, 6)...))
	is(t, r, raft.State{Term: 6, Lead: 1, Commit: 10, First: 6, Last: 10})
	takes(t, r, raft.Ready{
		Hard: api.Hard{Term: 6}, Entries: run(10, 6), Committed: append(run(6, 2, 2, 3, 5), entry(10, 6)),
		Messages: []api.Msg{matched(2, 3, 5, 10), matched(2, 3, 5, 10), matched(2, 3, 5, 6), matched(2, 1, 6, 10)},
	})
	steps(r, appendTo(1, 2, 6, 3, 9, 0), appendTo(1, 2, 6, 0, 0, 99, run(1, 9, 9)...))
	is(t, r, raft.State{Term: 6, Lead: 1, Commit: 10, First: 6, Last: 10})
	sends(t, r, matched(2, 1, 6, 3), matched(2, 1, 6, 2))
}

// R3: the first entry of all may be replaced as well, and is to be stored again.
func TestAppendFirst(t *testing.T) {
	r := raft.New(2, api.Hard{Term: 1}, api.Base{Voters: []int{1, 2, 3}}, run(1, 1, 1), 3)
	r.Step(appendTo(1, 2, 2, 0, 0, 0, entry(1, 2)))
	takes(t, r, raft.Ready{Hard: api.Hard{Term: 2}, Entries: run(1, 2), Messages: []api.Msg{matched(2, 1, 2, 1)}})
}

// R3: a base behind the commit index takes the place of the log; entries stay behind one that the log has.
func TestSnap(t *testing.T) {
	for _, c := range []struct {
		index, term int
		kept        []api.Entry
	}{
		{6, 2, run(7, 2, 3, 5, 5)}, {8, 3, run(9, 5, 5)}, {10, 5, nil}, {10, 4, nil}, {8, 2, nil}, {6, 5, nil}, {11, 5, nil}, {1 << 40, 5, nil},
	} {
		r, b := five(), base(c.index, c.term, 2, 3)
		r.Step(snapTo(3, 2, 5, b))
		is(t, r, raft.State{Term: 5, Lead: 3, Commit: c.index, First: c.index + 1, Last: c.index + len(c.kept)})
		same(t, "Base", r.Base(), b)
		same(t, "Voters", r.Voters(), b.Voters)
		takes(t, r, raft.Ready{Hard: api.Hard{Term: 5}, Snap: b, Entries: c.kept, Messages: []api.Msg{matched(2, 3, 5, c.index)}})
		takes(t, r, raft.Ready{Hard: api.Hard{Term: 5}})
	}
}

// R3: a base up to the commit index changes nothing; the answer tells the commit index.
func TestSnapOld(t *testing.T) {
	for index := 1; index <= 8; index++ {
		r := five()
		r.Step(appendTo(3, 2, 5, 10, 5, 8))
		r.Take()
		r.Step(snapTo(1, 2, 5, base(index, 1, 8, 9)))
		is(t, r, raft.State{Term: 5, Lead: 1, Commit: 8, First: 6, Last: 10})
		same(t, "Base", r.Base(), base(5, 2, 1, 2, 3))
		takes(t, r, raft.Ready{Hard: api.Hard{Term: 5}, Messages: []api.Msg{matched(2, 1, 5, 8)}})
	}
}

// R3: the commit index counts even where Take has not told of it yet.
func TestSnapUntold(t *testing.T) {
	r := five()
	steps(r, appendTo(3, 2, 5, 10, 5, 8), snapTo(3, 2, 5, base(7, 9, 8, 9)), snapTo(3, 2, 5, base(8, 9, 8, 9)))
	same(t, "Base", r.Base(), base(5, 2, 1, 2, 3))
	takes(t, r, raft.Ready{Hard: api.Hard{Term: 5}, Committed: run(6, 2, 2, 3), Messages: []api.Msg{matched(2, 3, 5, 10), matched(2, 3, 5, 8), matched(2, 3, 5, 8)}})
}

// R3: roles and elapsed are as for an MAppend.
func TestSnapRoles(t *testing.T) {
	for _, index := range []int{1, 9} {
		for role, r := range roles()[:3] {
			if index == 1 { // a base that it has already
				r.Step(snapTo(3, 1, 1, base(1, 1, 1, 2, 3)))
				r.Take()
				if role == 2 {
					ticks(r, 3)
					same(t, "Role", r.State().Role, raft.Candidate)
				}
			}
			ticks(r, 1)
			r.Take()
			before := r.State()
			r.Step(snapTo(2, 1, before.Term, base(index, 1, 1, 2, 3)))
			want := raft.State{Term: before.Term, Vote: before.Vote, Lead: 2, Commit: index, First: index + 1, Last: index}
			is(t, r, want)
			ticks(r, 2)
			is(t, r, want)
			ticks(r, 1)
			same(t, "Role", r.State().Role, raft.Candidate)
		}
	}
	r := leading(1, 2, 3)
	r.Step(snapTo(3, 1, 1, base(9, 1, 1, 2, 3)))
	is(t, r, raft.State{Role: raft.Leader, Term: 1, Vote: 1, Lead: 1, First: 1, Last: 1})
	takes(t, r, raft.Ready{Hard: api.Hard{Term: 1, Vote: 1}})
}

// R3, R6: what lies up to the base is neither committed nor stored any more, and the last base is told.
func TestSnapTake(t *testing.T) {
	r := five()
	steps(r, appendTo(3, 2, 5, 10, 5, 7, run(11, 5, 5)...), snapTo(3, 2, 5, base(8, 3, 1, 2)), snapTo(3, 2, 5, base(9, 5, 2, 3)), appendTo(3, 2, 5, 12, 5, 11))
	is(t, r, raft.State{Term: 5, Lead: 3, Commit: 11, First: 10, Last: 12})
	takes(t, r, raft.Ready{
		Hard: api.Hard{Term: 5}, Snap: base(9, 5, 2, 3), Entries: run(10, 5, 5, 5), Committed: run(10, 5, 5),
		Messages: []api.Msg{matched(2, 3, 5, 12), matched(2, 3, 5, 8), matched(2, 3, 5, 9), matched(2, 3, 5, 12)},
	})
	steps(r, appendTo(3, 2, 5, 12, 5, 11, entry(13, 5)), snapTo(3, 2, 5, base(20, 5, 2, 3)), appendTo(3, 2, 5, 20, 5, 21, run(21, 5, 5)...))
	takes(t, r, raft.Ready{
		Hard: api.Hard{Term: 5}, Snap: base(20, 5, 2, 3), Entries: run(21, 5, 5), Committed: run(21, 5),
		Messages: []api.Msg{matched(2, 3, 5, 13), matched(2, 3, 5, 20), matched(2, 3, 5, 22)},
	})
}

// R3: the last entries that a base leaves are to be stored again even if they were stored, and not those ahead of the base.
func TestSnapStored(t *testing.T) {
	r := five()
	steps(r, snapTo(3, 2, 5, base(7, 2, 1, 2, 3)), appendTo(3, 2, 5, 8, 3, 0, entry(9, 4)))
	same(t, "Entries", r.Take().Entries, slices.Concat(run(8, 3), run(9, 4)))
}
