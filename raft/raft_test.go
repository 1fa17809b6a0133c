package raft_test

import (
	"fmt"
	"math"
	"slices"
	"strings"
	"testing"

	"kiosk/api"
	"kiosk/msg"
	"kiosk/raft"
)

// entry is a command whose Data tell which one it is.
func entry(index, term int) api.Entry {
	return api.Entry{Index: index, Term: term, Kind: api.Command, Data: fmt.Sprint(index, ".", term)}
}

// run are entries of these terms, from an Index on.
func run(from int, terms ...int) []api.Entry {
	var l []api.Entry
	for k, term := range terms {
		l = append(l, entry(from+k, term))
	}
	return l
}

func noop(index, term int) api.Entry { return api.Entry{Index: index, Term: term, Kind: api.Noop} }

func config(index, term int, voters ...int) api.Entry {
	return api.Entry{Index: index, Term: term, Kind: api.Config, Data: msg.Voters(voters)}
}

func base(index, term int, voters ...int) api.Base {
	return api.Base{Index: index, Term: term, Voters: voters, Data: fmt.Sprint("base ", index)}
}

// Messages from one node to another, in a Term.
func vote(from, to, term, index, logTerm int) api.Msg {
	return api.Msg{Kind: api.MVote, From: from, To: to, Term: term, Index: index, LogTerm: logTerm}
}

func voted(from, to, term int, ok bool) api.Msg {
	return api.Msg{Kind: api.MVoted, From: from, To: to, Term: term, OK: ok}
}

func appendTo(from, to, term, index, logTerm, commit int, l ...api.Entry) api.Msg {
	return api.Msg{Kind: api.MAppend, From: from, To: to, Term: term, Index: index, LogTerm: logTerm, Commit: commit, Entries: l}
}

func matched(from, to, term, index int) api.Msg {
	return api.Msg{Kind: api.MAppends, From: from, To: to, Term: term, Index: index, OK: true}
}

func hint(from, to, term, index int) api.Msg {
	return api.Msg{Kind: api.MAppends, From: from, To: to, Term: term, Index: index}
}

func snapTo(from, to, term int, b api.Base) api.Msg {
	return api.Msg{Kind: api.MSnap, From: from, To: to, Term: term, Base: b}
}

// shown tells of any values; empty slices are the same, nil or not.
func shown(x ...any) string { return fmt.Sprintf("%+v", x) }

// brief is what fits on a line.
func brief(s string) string {
	if len(s) > 1500 {
		return s[:700] + " .. " + s[len(s)-700:]
	}
	return s
}

func same(t *testing.T, what string, got, want any) {
	t.Helper()
	if g, w := shown(got), shown(want); g != w {
		t.Errorf("%s:\n%s\nnot\n%s", what, brief(g), brief(w))
	}
}

func is(t *testing.T, r *raft.Raft, s raft.State) {
	t.Helper()
	same(t, "State", r.State(), s)
}

func takes(t *testing.T, r *raft.Raft, x raft.Ready) {
	t.Helper()
	same(t, "Take", r.Take(), x)
}

// sends looks at the messages alone.
func sends(t *testing.T, r *raft.Raft, l ...api.Msg) {
	t.Helper()
	same(t, "Messages", r.Take().Messages, l)
}

func ticks(r *raft.Raft, n int) {
	for range n {
		r.Tick()
	}
}

func steps(r *raft.Raft, l ...api.Msg) {
	for _, m := range l {
		r.Step(m)
	}
}

// five is node 2 of 1, 2, 3 with a base 5 of term 2 and the entries 6 to 10, in term 5, with the timeout 3.
func five() *raft.Raft {
	return raft.New(2, api.Hard{Term: 5}, base(5, 2, 1, 2, 3), run(6, 2, 2, 3, 5, 5), 3)
}

// fresh is a node of 1, 2, 3 that has nothing yet, with the timeout 3.
func fresh(id int) *raft.Raft {
	return raft.New(id, api.Hard{}, api.Base{Voters: []int{1, 2, 3}}, nil, 3)
}

// leading is node 1 of these voters, the leader of term 1, whose Noop is entry 1: not yet committed, and all is taken.
func leading(voters ...int) *raft.Raft {
	r := raft.New(1, api.Hard{}, api.Base{Voters: voters}, nil, 3)
	ticks(r, 3)
	for _, v := range voters {
		if v != 1 {
			r.Step(voted(v, 1, 1, true))
		}
	}
	r.Take()
	return r
}

// settled is leading, with entry 1 on all voters, committed.
func settled(voters ...int) *raft.Raft {
	r := leading(voters...)
	for _, v := range voters {
		if v != 1 {
			r.Step(matched(v, 1, 1, 1))
		}
	}
	r.Take()
	return r
}

// R1: what a node is at first: a follower without a leader, with all that was stored and nothing to do.
func TestNew(t *testing.T) {
	for _, c := range []struct {
		h    api.Hard
		b    api.Base
		l    []api.Entry
		want raft.State
	}{
		{api.Hard{}, api.Base{}, nil, raft.State{First: 1}},
		{api.Hard{}, api.Base{Voters: []int{1, 2, 3}}, nil, raft.State{First: 1}},
		{api.Hard{Term: 7, Vote: 3}, base(0, 0, 1, 2, 3), run(1, 1, 1, 4), raft.State{Term: 7, Vote: 3, First: 1, Last: 3}},
		{api.Hard{Term: 7}, base(12, 6, 1, 2, 3), nil, raft.State{Term: 7, Commit: 12, First: 13, Last: 12}},
		{api.Hard{Term: 7, Vote: 1}, base(12, 6, 1, 2, 3), run(13, 6, 7), raft.State{Term: 7, Vote: 1, Commit: 12, First: 13, Last: 14}},
		{api.Hard{Term: 7}, base(12, 6, 1, 2, 3), run(10, 5, 5, 6, 6, 7, 7), raft.State{Term: 7, Commit: 12, First: 13, Last: 15}}, // lesser ones are skipped
		{api.Hard{Term: 7}, base(12, 6, 1, 2, 3), run(14, 6, 7), raft.State{Term: 7, Commit: 12, First: 13, Last: 12}},             // a gap ends it
	} {
		r := raft.New(1, c.h, c.b, c.l, 5)
		is(t, r, c.want)
		same(t, "Base", r.Base(), c.b)
		same(t, "Voters", r.Voters(), c.b.Voters)
		takes(t, r, raft.Ready{Hard: c.h})
	}
}

// The roles are those of the document.
func TestRoles(t *testing.T) {
	same(t, "roles", []int{raft.Follower, raft.Candidate, raft.Leader}, []int{0, 1, 2})
}

// R1: elapsed is 0 at first.
func TestNewElapsed(t *testing.T) {
	r := fresh(1)
	for n := range 3 {
		is(t, r, raft.State{First: 1})
		if n == 2 {
			r.Timeout(4)
		}
		r.Tick()
	}
	is(t, r, raft.State{First: 1})
	r.Tick()
	is(t, r, raft.State{Role: raft.Candidate, Term: 1, Vote: 1, First: 1})
}

// R1: the voters are those that the last entry sets that sets any, committed or not.
func TestVoters(t *testing.T) {
	l := []api.Entry{entry(6, 2), config(7, 2, 1, 2, 3, 4), entry(8, 2), config(9, 3, 2, 3, 4), {Index: 10, Term: 3, Kind: api.Config, Data: "wrong"}}
	for n, want := range [][]int{{1, 2, 3}, {1, 2, 3}, {1, 2, 3, 4}, {1, 2, 3, 4}, {2, 3, 4}, {2, 3, 4}} {
		r := raft.New(1, api.Hard{}, base(5, 2, 1, 2, 3), l[:n], 3)
		same(t, "Voters", r.Voters(), want)
		same(t, "Base", r.Base(), base(5, 2, 1, 2, 3))
	}
	r := raft.New(1, api.Hard{}, base(5, 2, 1, 2, 3), l, 3)
	r.Step(appendTo(2, 1, 4, 8, 2, 0, entry(9, 4))) // another one in the place of the last change
	same(t, "Voters", r.Voters(), []int{1, 2, 3, 4})
	r.Step(appendTo(2, 1, 4, 6, 2, 0, entry(7, 4)))
	same(t, "Voters", r.Voters(), []int{1, 2, 3})
	r.Step(snapTo(2, 1, 4, base(20, 4, 5, 6)))
	same(t, "Voters", r.Voters(), []int{5, 6})
}

// R1: a Timeout counts from the next tick on, and what has elapsed stays.
func TestTimeout(t *testing.T) {
	for _, c := range []struct{ before, timeout, after int }{
		{0, 1, 1}, {0, 5, 5}, {2, 5, 3}, {2, 3, 1}, {2, 2, 1}, {2, 1, 1}, {2, 0, 1}, {2, -7, 1}, {1, math.MinInt, 1}, {0, 0, 1},
	} {
		r := fresh(1)
		ticks(r, c.before)
		r.Timeout(c.timeout)
		ticks(r, c.after-1)
		is(t, r, raft.State{First: 1})
		ticks(r, 1)
		is(t, r, raft.State{Role: raft.Candidate, Term: 1, Vote: 1, First: 1})
	}
	r := fresh(1)
	r.Timeout(math.MaxInt)
	ticks(r, 1000)
	is(t, r, raft.State{First: 1})
}

// P3: what is handed in is not kept, nor changed; what is answered is new.
func TestKeeps(t *testing.T) {
	v, l := []int{1, 2, 3, 4}, run(1, 1, 1, 1)
	r := raft.New(1, api.Hard{}, api.Base{Voters: v[:3]}, l[:2], 3)
	v[0], l[0] = 9, entry(1, 8)
	r.Voters()[1] = 9
	r.Base().Voters[2] = 9
	same(t, "Voters", r.Voters(), []int{1, 2, 3})
	same(t, "Base", r.Base(), api.Base{Voters: []int{1, 2, 3}})
	ticks(r, 3)
	r.Step(voted(2, 1, 1, true))
	same(t, "handed in", l[2], entry(3, 1))
	sends(t, r, vote(1, 2, 1, 2, 1), vote(1, 3, 1, 2, 1), appendTo(1, 2, 1, 2, 1, 0, noop(3, 1)), appendTo(1, 3, 1, 2, 1, 0, noop(3, 1)))
	r.Step(hint(2, 1, 1, 0))
	sends(t, r, appendTo(1, 2, 1, 0, 0, 0, entry(1, 1), entry(2, 1), noop(3, 1)))
}

// P3: entries and bases of messages, and the answers of Take.
func TestKeepsMessages(t *testing.T) {
	r, l, v := fresh(2), run(1, 1, 1, 1), []int{1, 2, 3, 4, 5}
	r.Step(appendTo(1, 2, 1, 0, 0, 2, l[:2]...))
	same(t, "handed in", l, run(1, 1, 1, 1))
	l[0], l[1] = entry(7, 7), entry(7, 7)
	x := r.Take()
	same(t, "Entries", x.Entries, run(1, 1, 1))
	same(t, "Committed", x.Committed, run(1, 1, 1))
	x.Entries[0].Term = 9
	same(t, "Committed", x.Committed, run(1, 1, 1))
	r.Step(appendTo(1, 2, 1, 0, 0, 2, l[:0]...))
	r.Step(snapTo(1, 2, 1, api.Base{Index: 7, Term: 1, Voters: v[:4]}))
	v[0] = 9
	x = r.Take()
	same(t, "Snap", x.Snap.Voters, []int{1, 2, 3, 4})
	x.Snap.Voters[0] = 9
	same(t, "Voters", r.Voters(), []int{1, 2, 3, 4})
	same(t, "handed in", v, []int{9, 2, 3, 4, 5})
}

// P3: two messages of one Take share nothing.
func TestKeepsApart(t *testing.T) {
	r := leading(1, 2, 3)
	ticks(r, 2)
	x := r.Take()
	x.Messages[0].Entries[0].Data = "changed"
	same(t, "Messages", x.Messages[1], appendTo(1, 3, 1, 0, 0, 0, noop(1, 1)))
	x.Messages[0] = api.Msg{}
	ticks(r, 2)
	sends(t, r, appendTo(1, 2, 1, 0, 0, 0, noop(1, 1)), appendTo(1, 3, 1, 0, 0, 0, noop(1, 1)))

	r = settled(1, 2, 3)
	r.Compact(1, "x")
	steps(r, hint(2, 1, 1, 0), hint(3, 1, 1, 0))
	r.Propose(api.Command, "")
	x = r.Take()
	for _, m := range x.Messages {
		for k := range m.Base.Voters {
			m.Base.Voters[k] = 9
		}
	}
	same(t, "Voters", r.Voters(), []int{1, 2, 3})

	v := []int{1, 2, 3, 4, 5}
	r = settled(1, 2, 3)
	r.Change(v[:4])
	v[3] = 9
	same(t, "Voters", r.Voters(), []int{1, 2, 3, 4})
	same(t, "handed in", v, []int{1, 2, 3, 9, 5})
}

// P1: any arguments of New, and any calls: all of them return.
func TestAnyNode(t *testing.T) {
	odd := []int{math.MinInt, math.MinInt + 1, -1 << 40, -3, -1, 0, 1, 2, 10, 1 << 40, 1<<40 + 1, math.MaxInt - 1, math.MaxInt}
	voters := [][]int{nil, {1}, {1, 2}, {2, 1, 1, 2, 3}, {0}, {math.MinInt, 1, math.MaxInt}, {-1, 0, 10, 11, 12, 13, 14, 15, 16, 17, 18}, make([]int, 1000)}
	for _, id := range append(slices.Clone(odd), 3) {
		for _, n := range odd {
			for k, v := range voters {
				h := api.Hard{Term: odd[(k+5)%len(odd)], Vote: n}
				l := append(run(n-1, n, 1, n, 4), config(n+3, 2, 1, 2), api.Entry{Index: n + 4, Kind: n})
				anything(raft.New(id, h, api.Base{Index: n, Term: n, Voters: v}, l, n%4), id, n)
			}
		}
	}
	anything(&raft.Raft{}, 0, 3)
}

// anything calls all there is, with arguments round a number.
func anything(r *raft.Raft, id, n int) {
	for round := range 4 {
		ticks(r, 3)
		for kind := -1; kind <= 8; kind++ {
			for _, index := range []int{0, r.State().Last, r.State().First, n} {
				steps(r, api.Msg{Kind: kind, From: 1 + round, To: id, Term: max(0, r.State().Term), Index: index, OK: round%2 > 0,
					Entries: run(index+1, 1, n), Base: base(index, n, 1, 2), Commit: index})
			}
		}
		r.Propose(api.Command, "")
		r.Propose(n, "")
		r.Change(conformed(r.Voters(), n))
		r.Change(nil)
		r.Compact(n, "")
		r.Compact(r.State().Commit, "")
		r.Timeout(n % 3)
		r.Take()
	}
}

func conformed(l []int, n int) []int { return append(slices.Clone(l), n) }

// The examples of the chapter.
func TestExamples(t *testing.T) {
	r := fresh(1)
	ticks(r, 3)
	is(t, r, raft.State{Role: raft.Candidate, Term: 1, Vote: 1, First: 1})
	takes(t, r, raft.Ready{Hard: api.Hard{Term: 1, Vote: 1}, Messages: []api.Msg{vote(1, 2, 1, 0, 0), vote(1, 3, 1, 0, 0)}})
	r.Step(voted(2, 1, 1, true))
	is(t, r, raft.State{Role: raft.Leader, Term: 1, Vote: 1, Lead: 1, First: 1, Last: 1})
	takes(t, r, raft.Ready{
		Hard: api.Hard{Term: 1, Vote: 1}, Entries: []api.Entry{noop(1, 1)},
		Messages: []api.Msg{appendTo(1, 2, 1, 0, 0, 0, noop(1, 1)), appendTo(1, 3, 1, 0, 0, 0, noop(1, 1))},
	})
	r.Step(matched(3, 1, 1, 1))
	takes(t, r, raft.Ready{
		Hard: api.Hard{Term: 1, Vote: 1}, Committed: []api.Entry{noop(1, 1)},
		Messages: []api.Msg{appendTo(1, 2, 1, 0, 0, 1, noop(1, 1)), appendTo(1, 3, 1, 1, 1, 1)},
	})
}

// R6: all that is to be done is told once, as one: messages in their order, entries to store, entries that are committed.
func TestTake(t *testing.T) {
	r := fresh(2)
	steps(r, vote(3, 2, 1, 0, 0), appendTo(3, 2, 1, 0, 0, 1, run(1, 1, 1)...), appendTo(3, 2, 1, 2, 1, 2, entry(3, 1)), vote(1, 2, 1, 9, 9))
	want := raft.Ready{
		Hard: api.Hard{Term: 1, Vote: 3}, Entries: run(1, 1, 1, 1), Committed: run(1, 1, 1),
		Messages: []api.Msg{voted(2, 3, 1, true), matched(2, 3, 1, 2), matched(2, 3, 1, 3), voted(2, 1, 1, false)},
	}
	takes(t, r, want)
	for range 2 {
		takes(t, r, raft.Ready{Hard: api.Hard{Term: 1, Vote: 3}})
	}
	r.Step(appendTo(3, 2, 1, 3, 1, 3))
	takes(t, r, raft.Ready{Hard: api.Hard{Term: 1, Vote: 3}, Committed: run(3, 1), Messages: []api.Msg{matched(2, 3, 1, 3)}})
	r.Step(appendTo(1, 2, 4, 0, 0, 0))
	takes(t, r, raft.Ready{Hard: api.Hard{Term: 4}, Messages: []api.Msg{matched(2, 1, 4, 0)}})
}

// R6: what is committed when it comes is told as an entry to store and as a committed one; more than fits into a message, too.
func TestTakeMany(t *testing.T) {
	r := fresh(2)
	for i := range 50 {
		r.Step(appendTo(1, 2, 1, i, min(i, 1), i+1, entry(i+1, 1)))
	}
	x := r.Take()
	l := run(1, slices.Repeat([]int{1}, 50)...)
	same(t, "Entries", x.Entries, l)
	same(t, "Committed", x.Committed, l)
}

// R6: entries are to be stored from the least Index on that was appended or matched anew since the last Take.
func TestTakeEntries(t *testing.T) {
	first := appendTo(1, 2, 5, 10, 5, 0, entry(11, 5))
	for _, c := range []struct {
		l    []api.Msg
		want []api.Entry
	}{
		{nil, nil},
		{[]api.Msg{first}, run(11, 5)},
		{[]api.Msg{first, first}, run(11, 5)},
		{[]api.Msg{first, appendTo(1, 2, 5, 11, 5, 0, run(12, 5, 5)...)}, run(11, 5, 5, 5)},
		{[]api.Msg{appendTo(1, 2, 5, 7, 2, 0, run(8, 3, 5, 5)...)}, nil}, // it has these
		{[]api.Msg{appendTo(1, 2, 5, 7, 2, 0, run(8, 3, 6)...)}, run(9, 6)},
		{[]api.Msg{first, appendTo(1, 2, 5, 7, 2, 0, run(8, 4)...)}, run(8, 4)},
		{[]api.Msg{appendTo(1, 2, 5, 7, 2, 0, run(8, 4)...), appendTo(1, 2, 5, 8, 4, 0, run(9, 4, 5)...)}, run(8, 4, 4, 5)},
		{[]api.Msg{appendTo(1, 2, 5, 5, 2, 0, run(6, 4)...)}, run(6, 4)},
		{[]api.Msg{appendTo(1, 2, 5, 9, 4, 0, run(10, 4)...)}, nil}, // no match
	} {
		r := five()
		steps(r, c.l...)
		same(t, shown(c.l), r.Take().Entries, c.want)
		same(t, "again", r.Take().Entries, run(0))
		last := r.State().Last
		term := 5
		if len(c.want) > 0 {
			term = c.want[len(c.want)-1].Term
		}
		r.Step(appendTo(1, 2, 5, last, term, 0, entry(last+1, 6)))
		same(t, "one more", r.Take().Entries, run(last+1, 6))
	}
}

// R5: Compact reaches up to what was delivered: what Take has told, and not what is only committed.
func TestCompact(t *testing.T) {
	r := five()
	r.Step(appendTo(1, 2, 5, 10, 5, 9))
	for _, i := range []int{6, 9, 10, math.MaxInt} {
		same(t, "not delivered", r.Compact(i, "x"), api.ErrRange)
	}
	same(t, "Base", r.Base(), base(5, 2, 1, 2, 3))
	same(t, "Committed", r.Take().Committed, run(6, 2, 2, 3, 5))
	for _, i := range []int{10, 11, math.MaxInt, 5, 4, 0, -1, math.MinInt} {
		same(t, "out of range", r.Compact(i, "x"), api.ErrRange)
	}
	same(t, "Compact", r.Compact(8, "eight"), api.OK)
	same(t, "Base", r.Base(), api.Base{Index: 8, Term: 3, Voters: []int{1, 2, 3}, Data: "eight"})
	is(t, r, raft.State{Term: 5, Lead: 1, Commit: 9, First: 9, Last: 10})
	same(t, "Compact", r.Compact(8, "eight"), api.ErrRange)
	same(t, "Compact", r.Compact(9, "nine"), api.OK)
	takes(t, r, raft.Ready{Hard: api.Hard{Term: 5}})
	r.Step(snapTo(1, 2, 5, base(20, 5, 1, 2, 3)))
	same(t, "the base of the message", r.Compact(20, "x"), api.ErrRange)
	same(t, "behind it", r.Compact(21, "x"), api.ErrRange)
}

// R5: the Data of a base may be long, and its voters are those at its Index.
func TestCompactBase(t *testing.T) {
	long := strings.Repeat("x", 100000)
	r := raft.New(1, api.Hard{Term: 1}, base(0, 0, 1, 2, 3), []api.Entry{config(1, 1, 1, 2, 3, 4), config(2, 1, 1, 2, 3)}, 3)
	r.Step(appendTo(2, 1, 1, 2, 1, 2))
	r.Take()
	same(t, "Compact", r.Compact(1, long), api.OK)
	same(t, "Base", r.Base(), api.Base{Index: 1, Term: 1, Voters: []int{1, 2, 3, 4}, Data: long})
	same(t, "Voters", r.Voters(), []int{1, 2, 3})
}
