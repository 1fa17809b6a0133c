package raft_test

import (
	"fmt"
	"math/rand"
	"slices"
	"testing"

	"kiosk/api"
	"kiosk/conf"
	"kiosk/msg"
	"kiosk/raft"
	"kiosk/rlog"
)

// model is a node by the words of the chapter, one after the other.
type model struct {
	id, term, vote, role, lead, elapsed, timeout int
	log                                          *rlog.Log
	commit, delivered                            int
	granted, next, match                         map[int]int
	marks                                        []int // what was appended, matched anew or kept after a Snap
	snap                                         api.Base
	out                                          []api.Msg
}

func (n *model) voters() []int { return n.log.Voters(n.log.Last()) }

func (n *model) others() []int {
	var l []int
	for v := 1; v <= 9; v++ {
		if v != n.id && slices.Contains(n.voters(), v) {
			l = append(l, v)
		}
	}
	return l
}

func (n *model) send(m api.Msg) {
	m.From, m.Term = n.id, n.term
	n.out = append(n.out, m)
}

func (n *model) replicate(v int) {
	b := n.log.Base()
	if n.next[v] <= b.Index {
		n.send(api.Msg{Kind: api.MSnap, To: v, Base: b})
		return
	}
	at, _ := n.log.Term(n.next[v] - 1)
	n.send(api.Msg{Kind: api.MAppend, To: v, Index: n.next[v] - 1, LogTerm: at, Commit: n.commit, Entries: n.log.Slice(n.next[v], 8)})
}

func (n *model) all() {
	for _, v := range n.others() {
		n.replicate(v)
	}
}

func (n *model) advance() {
	var l []int
	for _, v := range n.voters() {
		if v == n.id {
			l = append(l, n.log.Last())
		} else {
			l = append(l, n.match[v])
		}
	}
	at := conf.Agreed(l)
	term, _ := n.log.Term(at)
	if at > n.commit && term == n.term {
		n.commit = at
		n.all()
		if !slices.Contains(n.voters(), n.id) && slices.Equal(n.log.Voters(at), n.voters()) {
			n.role, n.lead, n.elapsed = 0, 0, 0
		}
	}
}

func (n *model) add(kind int, data string) int {
	e := n.log.Add(n.term, kind, data)
	n.marks = append(n.marks, e.Index)
	n.all()
	n.advance()
	return e.Index
}

func (n *model) toLead() {
	n.role, n.lead, n.elapsed = 2, n.id, 0
	n.next, n.match = map[int]int{}, map[int]int{}
	for _, v := range n.others() {
		n.next[v], n.match[v] = n.log.Last()+1, 0
	}
	n.add(1, "")
}

// won counts the votes that were granted.
func (n *model) won() bool {
	yes := 0
	for _, v := range n.voters() {
		yes += n.granted[v]
	}
	return 2*yes > len(n.voters())
}

func (n *model) tick() {
	n.elapsed++
	if n.role == 2 {
		if n.elapsed >= 2 {
			n.elapsed = 0
			n.all()
		}
		return
	}
	if n.elapsed < n.timeout {
		return
	}
	n.elapsed = 0
	if !slices.Contains(n.voters(), n.id) {
		return
	}
	n.term++
	n.vote, n.role, n.lead, n.granted = n.id, 1, 0, map[int]int{n.id: 1}
	at, _ := n.log.Term(n.log.Last())
	for _, v := range n.others() {
		n.send(api.Msg{Kind: api.MVote, To: v, Index: n.log.Last(), LogTerm: at})
	}
	if n.won() {
		n.toLead()
	}
}

// nothing tells whether a message is passed over.
func (n *model) nothing(m api.Msg) bool {
	if !msg.Right(m) || m.To != n.id || m.From == n.id || m.Kind == api.MForward {
		return true
	}
	if m.Kind == api.MAppend {
		before := m.Index
		for _, e := range m.Entries {
			if e.Index != before+1 || len(e.Data) > 65000 {
				return true
			}
			before = e.Index
		}
	}
	if m.Kind == api.MSnap && (m.Base.Index == 0 || len(m.Base.Voters) == 0) {
		return true
	}
	return m.Kind == api.MVote && m.Term > n.term && (n.role == 2 || n.lead != 0 && n.elapsed < 4)
}

func (n *model) step(m api.Msg) {
	if n.nothing(m) {
		return
	}
	if m.Term > n.term {
		n.role, n.lead, n.term, n.vote = 0, 0, m.Term, 0
	}
	if m.Term < n.term {
		if m.Kind == api.MVote {
			n.send(api.Msg{Kind: api.MVoted, To: m.From})
		} else if m.Kind == api.MAppend || m.Kind == api.MSnap {
			n.send(api.Msg{Kind: api.MAppends, To: m.From})
		}
		return
	}
	switch m.Kind {
	case api.MVote:
		ok := (n.vote == 0 || n.vote == m.From) && n.log.Newer(m.Index, m.LogTerm)
		if ok {
			n.vote, n.elapsed = m.From, 0
		}
		n.send(api.Msg{Kind: api.MVoted, To: m.From, OK: ok})
	case api.MVoted:
		if n.role == 1 && m.OK {
			if n.granted[m.From] = 1; n.won() {
				n.toLead()
			}
		}
	case api.MAppend:
		if n.role != 2 {
			n.role, n.lead, n.elapsed = 0, m.From, 0
			n.entries(m)
		}
	case api.MSnap:
		if n.role != 2 {
			n.role, n.lead, n.elapsed = 0, m.From, 0
			n.base(m)
		}
	case api.MAppends:
		if n.role == 2 && slices.Contains(n.voters(), m.From) {
			n.answer(m)
		}
	}
}

func (n *model) entries(m api.Msg) {
	index, first, ok := n.log.Match(m.Index, m.LogTerm, n.commit, m.Entries)
	if !ok {
		n.send(api.Msg{Kind: api.MAppends, To: m.From, Index: index})
		return
	}
	if first != 0 {
		n.marks = append(n.marks, first)
	}
	n.commit = max(n.commit, min(m.Commit, index))
	n.send(api.Msg{Kind: api.MAppends, To: m.From, Index: index, OK: true})
}

func (n *model) base(m api.Msg) {
	if m.Base.Index > n.commit {
		n.log.Restore(m.Base)
		n.commit, n.delivered, n.snap = m.Base.Index, m.Base.Index, m.Base
		n.marks = append(n.marks, m.Base.Index+1)
	}
	n.send(api.Msg{Kind: api.MAppends, To: m.From, Index: n.commit, OK: true})
}

func (n *model) answer(m api.Msg) {
	v := m.From
	if !m.OK {
		n.next[v] = min(n.next[v]-1, m.Index+1)
		n.next[v] = max(n.next[v], n.match[v]+1)
		n.replicate(v)
		return
	}
	n.match[v] = max(n.match[v], min(m.Index, n.log.Last()))
	n.next[v] = max(n.next[v], n.match[v]+1)
	n.advance()
	if n.role == 2 && n.next[v] <= n.log.Last() {
		n.replicate(v)
	}
}

func (n *model) propose(kind int, data string) (int, api.Errno) {
	if n.role != 2 {
		return 0, api.ErrLeader
	}
	if kind != 1 && kind != 2 || len(data) > 65000 {
		return 0, api.ErrArg
	}
	if len(n.log.Slice(n.commit+1, 1000)) >= 60 {
		return 0, api.ErrBusy
	}
	return n.add(kind, data), api.OK
}

func (n *model) change(voters []int) (int, api.Errno) {
	if n.role != 2 {
		return 0, api.ErrLeader
	}
	if term, _ := n.log.Term(n.commit); term != n.term {
		return 0, api.ErrBusy
	}
	for _, e := range n.log.Slice(n.commit+1, 1000) {
		if e.Kind == 3 {
			return 0, api.ErrBusy
		}
	}
	if !conf.Next(n.voters(), voters) {
		return 0, api.ErrArg
	}
	for _, v := range voters {
		if !slices.Contains(n.voters(), v) {
			n.next[v], n.match[v] = n.log.Last()+1, 0
		}
	}
	return n.add(3, msg.Voters(voters)), api.OK
}

func (n *model) compact(index int, data string) api.Errno {
	if index > n.delivered {
		return api.ErrRange
	}
	return n.log.Compact(index, data)
}

func (n *model) take() raft.Ready {
	x := raft.Ready{Hard: api.Hard{Term: n.term, Vote: n.vote}, Snap: n.snap, Messages: n.out}
	if len(n.marks) > 0 {
		for _, e := range n.log.Slice(n.log.Base().Index+1, 1000) {
			if e.Index >= slices.Min(n.marks) {
				x.Entries = append(x.Entries, e)
			}
		}
	}
	for i := n.delivered + 1; i <= n.commit; i++ {
		x.Committed = append(x.Committed, n.log.Slice(i, 1)...)
	}
	n.delivered, n.marks, n.snap, n.out = n.commit, nil, api.Base{}, nil
	return x
}

func (n *model) state() raft.State {
	return raft.State{Role: n.role, Term: n.term, Vote: n.vote, Lead: n.lead, Commit: n.commit, First: n.log.Base().Index + 1, Last: n.log.Last()}
}

// play is a node beside its model, and what is drawn for their next calls.
type play struct {
	r *rand.Rand
	g *raft.Raft
	m *model
}

func (p *play) set() []int {
	var l []int
	for v := 1; v <= 9; v++ {
		if v <= 4 && p.r.Intn(5) > 0 || p.r.Intn(8) == 0 {
			l = append(l, v)
		}
	}
	return l
}

func newPlay(seed int64) *play {
	p := &play{r: rand.New(rand.NewSource(seed))}
	id := 1 + p.r.Intn(4)
	h := api.Hard{Term: p.r.Intn(4), Vote: p.r.Intn(4)}
	b := api.Base{Index: p.r.Intn(2) * p.r.Intn(6), Term: p.r.Intn(2), Voters: p.set(), Data: "first"}
	var l []api.Entry
	for k := range p.r.Intn(6) {
		l = append(l, p.entry(b.Index+1+k, 1+p.r.Intn(2)))
	}
	timeout := 1 + p.r.Intn(6)
	p.g = raft.New(id, h, b, l, timeout)
	p.m = &model{id: id, term: h.Term, vote: h.Vote, timeout: timeout, log: rlog.New(b, l), commit: b.Index, delivered: b.Index}
	return p
}

func (p *play) entry(index, term int) api.Entry {
	e := api.Entry{Index: index, Term: term, Kind: 1 + p.r.Intn(2), Data: fmt.Sprint(p.r.Intn(1000))}
	if p.r.Intn(6) == 0 {
		e.Kind, e.Data = api.Config, msg.Voters(p.set())
	}
	return e
}

// near is most often an Index of the log.
func (p *play) near() int {
	low, high := p.m.log.Base().Index, p.m.log.Last()
	if p.r.Intn(3) == 0 {
		low = p.m.commit
	}
	return max(0, low-1+p.r.Intn(high-low+3))
}

// termAt is most often the right one.
func (p *play) termAt(i int) int {
	if t, ok := p.m.log.Term(i); ok && p.r.Intn(5) > 0 {
		return t
	}
	return p.r.Intn(p.m.term + 2)
}

func (p *play) message() api.Msg {
	kinds := []int{1, 2, 3, 3, 3, 4, 5, 6, 7}
	if p.m.role == 1 {
		kinds = append(kinds, 2, 2, 2, 2, 2, 2)
	} else if p.m.role == 2 {
		kinds = append(kinds, 4, 4, 4, 4, 4, 4, 4, 4, 4, 4, 4, 4, 4, 4)
	}
	m := api.Msg{Kind: kinds[p.r.Intn(len(kinds))], From: 1 + p.r.Intn(4), To: p.m.id, Term: p.m.term, OK: p.r.Intn(4) > 0}
	switch p.r.Intn(12) {
	case 0:
		m.Term = p.r.Intn(p.m.term + 1)
	case 1:
		m.Term += p.r.Intn(2)
	case 2:
		m.From, m.To = p.r.Intn(11), 1+p.r.Intn(4)
	}
	m.Index = p.near()
	m.LogTerm = p.termAt(m.Index)
	m.Commit = p.near()
	if m.Kind == api.MAppend || p.r.Intn(9) == 0 {
		for k := range p.r.Intn(10) {
			m.Entries = append(m.Entries, p.entry(m.Index+1+k+p.r.Intn(30)/29, p.termAt(m.Index+1+k)))
		}
	}
	if m.Kind == api.MSnap || p.r.Intn(9) == 0 {
		i := p.near()
		m.Base = api.Base{Index: i, Term: p.termAt(i), Voters: p.set(), Data: fmt.Sprint(p.r.Intn(1000))}
	}
	return m
}

// voters are most often some that may follow.
func (p *play) voters() []int {
	l, v := p.m.voters(), 1+p.r.Intn(5)
	switch {
	case p.r.Intn(8) == 0:
		return p.set()
	case slices.Contains(l, v):
		return conf.Without(l, v)
	}
	return conf.With(l, v)
}

// call makes one call of both, and answers what they answered.
func (p *play) call() (string, string, string) {
	switch k := p.r.Intn(20); {
	case k < 3:
		p.g.Tick()
		p.m.tick()
		return "Tick", "", ""
	case k < 12:
		m := p.message()
		p.g.Step(m)
		p.m.step(m)
		return "Step" + shown(m), "", ""
	case k < 15:
		kind, data := p.r.Intn(9)/8+1+p.r.Intn(2), fmt.Sprint(p.r.Intn(1000))
		a, e := p.g.Propose(kind, data)
		b, f := p.m.propose(kind, data)
		return "Propose", shown(a, e), shown(b, f)
	case k < 17:
		l := p.voters()
		a, e := p.g.Change(l)
		b, f := p.m.change(l)
		return "Change" + shown(l), shown(a, e), shown(b, f)
	case k < 18:
		i := p.near()
		return "Compact", shown(p.g.Compact(i, "base")), shown(p.m.compact(i, "base"))
	case k < 19:
		return "Take", shown(p.g.Take()), shown(p.m.take())
	}
	p.m.timeout = p.r.Intn(9) - 1
	p.g.Timeout(p.m.timeout)
	return "Timeout", "", ""
}

func (p *play) view() (string, string) {
	return shown(p.g.State(), p.g.Voters(), p.g.Base()), shown(p.m.state(), p.m.voters(), p.m.log.Base())
}

// R1 to R6: whatever is called, in whatever order, a node does what the words say.
func TestModel(t *testing.T) {
	seen := map[string]int{}
	for seed := range int64(3000) {
		p := newPlay(seed)
		for n := range 120 {
			what, got, want := p.call()
			a, b := p.view()
			if got != want || a != b {
				t.Fatalf("seed %d, call %d: %s:\n%s\n%s\nnot\n%s\n%s", seed, n, what, got, a, want, b)
			}
			seen[fmt.Sprint("role ", p.m.role)]++
			if len(what) >= 6 && what[:6] == "Change" && got == shown(p.m.log.Last(), api.OK) {
				seen["Change"]++
			}
			if p.m.role == 0 && p.m.lead == 0 && !slices.Contains(p.m.voters(), p.m.id) {
				seen["out"]++
			}
			if p.m.role == 2 && p.m.commit == p.m.log.Last() {
				seen["all committed"]++
			}
		}
	}
	for what, least := range map[string]int{"role 0": 10000, "role 1": 10000, "role 2": 50000, "Change": 400, "out": 1000, "all committed": 1500} {
		if seen[what] < least {
			t.Errorf("%s: %d", what, seen[what])
		}
	}
}
