package raft_test

import (
	"fmt"
	"hash/fnv"
	"math/rand"
	"slices"
	"testing"

	"kiosk/api"
	"kiosk/conf"
	"kiosk/msg"
	"kiosk/raft"
)

// saved is what a node finds when it starts.
type saved struct {
	hard api.Hard
	base api.Base
	l    []api.Entry
}

func (s saved) last() int { return s.base.Index + len(s.l) }

// store takes over what Take told, as the words of R7 say.
func (s *saved) store(x raft.Ready) error {
	s.hard = x.Hard
	if x.Snap.Index > 0 {
		s.base, s.l = x.Snap, nil
	}
	for k, e := range x.Entries {
		if e.Index <= s.base.Index || e.Index > s.last()+1 || k > 0 && e.Index != x.Entries[k-1].Index+1 {
			return fmt.Errorf("entry %d behind %d to %d", e.Index, s.base.Index, s.last())
		}
		s.l = append(slices.Clone(s.l[:e.Index-s.base.Index-1]), e)
	}
	return nil
}

// host is a node, on and off.
type host struct {
	on      bool
	r       *raft.Raft
	disk    saved
	applied int
	before  raft.State // as it was after its last call
}

// told is an entry that was reported as committed, first in a term.
type told struct {
	entry api.Entry
	sum   string // of all entries up to it
	term  int
}

// world is some nodes, what is on its way between them, and all that was ever seen of them.
type world struct {
	t         *testing.T
	r         *rand.Rand
	seed      int64
	first     api.Base
	hosts     map[int]*host
	flight    []api.Msg
	apart     map[int]bool
	calm      bool            // no crash
	committed []told          // the k-th has the Index k + 1
	leaders   map[int]int     // by the term
	known     map[[2]int]told // by Index and Term: the entry, and the sum of all up to it
	count     map[string]int
}

func newWorld(t *testing.T, seed int64) *world {
	w := &world{
		t: t, r: rand.New(rand.NewSource(seed)), seed: seed, hosts: map[int]*host{}, apart: map[int]bool{},
		leaders: map[int]int{}, known: map[[2]int]told{}, count: map[string]int{},
	}
	for v := 1; v <= 3+int(seed%3); v++ {
		w.first.Voters = append(w.first.Voters, v)
	}
	for id := 1; id <= 6; id++ {
		w.hosts[id] = &host{disk: saved{base: w.first}}
		w.start(id)
	}
	return w
}

func (w *world) fail(what ...any) { w.t.Fatalf("seed %d: %s", w.seed, fmt.Sprint(what...)) }

func (w *world) start(id int) {
	h := w.hosts[id]
	h.on, h.applied = true, h.disk.base.Index
	h.r = raft.New(id, h.disk.hard, h.disk.base, h.disk.l, 3+w.r.Intn(8))
	h.before = h.r.State()
	w.check(id)
}

// sum is of an entry, behind what has this sum.
func sum(before string, e api.Entry) string {
	f := fnv.New64a()
	fmt.Fprint(f, before, e.Index, e.Term, e.Kind, e.Data)
	return fmt.Sprint(f.Sum64())
}

// sumAt is the sum of what was committed up to an Index.
func (w *world) sumAt(i int) string {
	if i == 0 {
		return ""
	}
	return w.committed[i-1].sum
}

// crash has the power go now and then.
func (w *world) crash(h *host) bool {
	if w.calm || w.r.Intn(500) > 0 {
		return false
	}
	h.on = false
	w.count["crash"]++
	return true
}

// settle does what is to be done, unless the power goes ahead of it, or amid it.
func (w *world) settle(id int) {
	h := w.hosts[id]
	if w.crash(h) {
		return
	}
	x := h.r.Take()
	if e := h.disk.store(x); e != nil {
		w.fail(e)
	}
	if x.Snap.Index > 0 {
		w.count["snap"]++
		if x.Snap.Index > len(w.committed) || x.Snap.Data != w.sumAt(x.Snap.Index) {
			w.fail("a base that is not the one of what was committed")
		}
		h.applied = x.Snap.Index
	}
	w.check(id)
	if w.crash(h) {
		return
	}
	for _, m := range x.Messages {
		if !msg.Right(m) || m.From != id || m.To == id {
			w.fail("message", m)
		}
		w.flight = append(w.flight, m)
	}
	for _, e := range x.Committed {
		w.commit(id, e)
	}
}

// commit looks whether a node reports the entry that all others do.
func (w *world) commit(id int, e api.Entry) {
	h := w.hosts[id]
	if h.applied++; e.Index != h.applied {
		w.fail("committed ", e.Index, " behind ", h.applied-1)
	}
	if e.Index > len(w.committed) {
		w.committed = append(w.committed, told{e, sum(w.sumAt(e.Index-1), e), h.r.State().Term})
	}
	c := &w.committed[e.Index-1]
	if c.entry != e {
		w.fail(id, " has ", e, ", not ", c.entry)
	}
	c.term = min(c.term, h.r.State().Term)
	for _, l := range w.hosts { // a report may come after the election
		if s := l.before; l.on && s.Role == raft.Leader && !l.disk.holds(*c, s.Term) {
			w.fail("leader of term ", s.Term, " lacks ", e)
		}
	}
}

// holds tells whether a log has an entry, if it was committed in a lower term; its base stands for all up to it.
func (s saved) holds(c told, term int) bool {
	k := c.entry.Index - s.base.Index - 1
	return c.term >= term || k < 0 || k < len(s.l) && s.l[k] == c.entry
}

// check looks at a node, and at what it has stored, for what must be in any case.
func (w *world) check(id int) {
	h, s := w.hosts[id], w.hosts[id].r.State()
	if s.Term < h.before.Term || s.Commit < h.before.Commit {
		w.fail("it decreased: ", s, h.before)
	}
	h.before = s
	if s.Term != h.disk.hard.Term || s.Vote != h.disk.hard.Vote || s.First != h.disk.base.Index+1 || s.Last != h.disk.last() || s.Commit > s.Last {
		w.fail("stored is another: ", s, h.disk)
	}
	w.matches(h.disk)
	if s.Role == raft.Leader {
		if other, ok := w.leaders[s.Term]; ok && other != id {
			w.fail("two leaders of term ", s.Term)
		} else if !ok {
			w.leaders[s.Term] = id
			w.complete(h.disk, s.Term)
		}
	}
}

// matches looks whether logs are equal up to an entry that they have in common. A base is one of those that were committed.
func (w *world) matches(d saved) {
	before := w.sumAt(d.base.Index)
	for _, e := range d.l {
		now := told{e, sum(before, e), 0}
		key := [2]int{e.Index, e.Term}
		if known, ok := w.known[key]; ok && known != now {
			w.fail("logs with other entries ahead of ", e)
		}
		w.known[key] = now
		before = now.sum
	}
}

// complete looks whether a new leader has all that was committed in lower terms.
func (w *world) complete(d saved, term int) {
	w.count["leader"]++
	for _, c := range w.committed {
		if !d.holds(c, term) {
			w.fail("leader of term ", term, " lacks ", c.entry)
		}
	}
}

func (w *world) deliver(k int) {
	m := w.flight[k]
	w.flight = slices.Delete(w.flight, k, k+1)
	if h := w.hosts[m.To]; h.on && w.apart[m.From] == w.apart[m.To] {
		h.r.Step(m)
		w.settle(m.To)
	}
}

// network has something happen to a message.
func (w *world) network() {
	if len(w.flight) == 0 {
		return
	}
	k := w.r.Intn(len(w.flight))
	switch n := w.r.Intn(40); {
	case n == 0 || len(w.flight) > 200:
		w.flight = slices.Delete(w.flight, k, k+1)
	case n == 1:
		w.flight = append(w.flight, w.flight[k])
	case n < 25:
		w.deliver(0)
	default:
		w.deliver(k)
	}
}

// client asks a node for something, most often for a command.
func (w *world) client(id int) {
	r := w.hosts[id].r
	switch w.r.Intn(4) {
	case 0:
		v := 1 + w.r.Intn(6)
		next := conf.With(r.Voters(), v)
		if conf.Has(r.Voters(), v) {
			next = conf.Without(next, v)
		}
		if _, e := r.Change(next); e == api.OK {
			w.count["change"]++
		}
	case 1:
		i := w.hosts[id].applied - w.r.Intn(3)
		if i > 0 && r.Compact(i, w.sumAt(i)) == api.OK {
			d := &w.hosts[id].disk
			d.l = slices.Clone(d.l[i-d.base.Index:])
			d.base = r.Base()
			w.count["compact"]++
		}
	default:
		if i, e := r.Propose(1+w.r.Intn(2), fmt.Sprint(w.r.Intn(1000000))); e == api.OK {
			w.count["propose"]++
			if s := r.State(); i != s.Last {
				w.fail("proposed as ", i, ", the last is ", s.Last)
			}
		}
	}
	w.settle(id)
}

// event is the next thing that happens.
func (w *world) event() {
	id := 1 + w.r.Intn(6)
	h := w.hosts[id]
	switch n := w.r.Intn(100); {
	case n < 70:
		w.network()
	case n == 70 && w.r.Intn(4) == 0:
		w.apart = map[int]bool{id: true, 1 + w.r.Intn(6): true}
	case n == 71 && w.r.Intn(2) == 0:
		w.apart = map[int]bool{}
	case !h.on:
		if w.r.Intn(2) == 0 {
			w.start(id)
		}
	case n < 90:
		h.r.Tick()
		w.settle(id)
	case n < 91:
		h.r.Timeout(3 + w.r.Intn(8))
	default:
		w.client(id)
	}
}

// R7: whatever is lost, doubled, late or crashes, nodes agree on what is committed, and each term has one leader at the most.
func TestSafety(t *testing.T) {
	count := map[string]int{}
	for seed := range int64(200) {
		w := newWorld(t, seed)
		for range 8000 {
			w.event()
		}
		count["committed"] += len(w.committed)
		for what, n := range w.count {
			count[what] += n
		}
	}
	t.Log(count)
	for what, least := range map[string]int{"committed": 10000, "leader": 1000, "change": 500, "snap": 100, "compact": 1000, "crash": 1000, "propose": 5000} {
		if count[what] < least {
			t.Errorf("%s: %d", what, count[what])
		}
	}
}

// R7: without trouble, nodes elect a leader and commit what they are asked for, on all of them.
func TestProgress(t *testing.T) {
	for seed := range int64(50) {
		w := newWorld(t, seed)
		for range 1000 {
			w.event()
		}
		w.apart, w.calm = map[int]bool{}, true
		for id := 1; id <= 6; id++ {
			h := w.hosts[id]
			if !h.on {
				w.start(id)
			}
			h.r.Timeout(4 + 2*id)
		}
		w.run(100)
		if w.lead() == 0 {
			w.fail("nobody leads")
		}
		i, e := w.hosts[w.lead()].r.Propose(api.Command, "the last one")
		w.run(20)
		for _, v := range w.hosts[w.lead()].r.Voters() {
			if s := w.hosts[v].r.State(); e != api.OK || s.Commit < i || s.Lead != w.lead() {
				w.fail(v, " is at ", s, ", not at ", i)
			}
		}
	}
}

// run ticks all nodes, and delivers each message at once.
func (w *world) run(n int) {
	for range n {
		for id := 1; id <= 6; id++ {
			w.hosts[id].r.Tick()
			w.settle(id)
		}
		for len(w.flight) > 0 {
			w.deliver(0)
		}
	}
}

// lead is the leader of the greatest term.
func (w *world) lead() int {
	term, lead := -1, 0
	for id := 1; id <= 6; id++ {
		if s := w.hosts[id].r.State(); s.Role == raft.Leader && s.Term > term {
			term, lead = s.Term, id
		}
	}
	return lead
}
