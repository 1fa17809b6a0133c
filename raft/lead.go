package raft

import (
	"math"
	"slices"

	"kiosk/api"
	"kiosk/conf"
	"kiosk/msg"
)

// peer is another voter: where the next entry for it lies, and up to where its log is known to be the leader's.
type peer struct{ next, match int }

// Propose adds an entry, Change one that sets the voters.
func (r *Raft) Propose(kind int, data string) (int, api.Errno) {
	switch {
	case r.role != Leader:
		return 0, api.ErrLeader
	case kind != api.Command && kind != api.Noop || len(data) > maxData:
		return 0, api.ErrArg
	case r.log.Last()-r.commit >= api.MaxPending:
		return 0, api.ErrBusy
	}
	return r.add(kind, data), api.OK
}

func (r *Raft) Change(voters []int) (int, api.Errno) {
	switch {
	case r.role != Leader:
		return 0, api.ErrLeader
	case r.unsettled():
		return 0, api.ErrBusy
	case !conf.Next(r.Voters(), voters):
		return 0, api.ErrArg
	}
	r.meet(voters)
	return r.add(api.Config, msg.Voters(voters)), api.OK
}

// unsettled tells whether it isn't known yet which voters count: two changes under way could have majorities that don't meet.
func (r *Raft) unsettled() bool {
	term, _ := r.log.Term(r.commit)
	return term != r.term || slices.ContainsFunc(r.log.Slice(r.commit+1, math.MaxInt), isConfig)
}

func isConfig(e api.Entry) bool { return e.Kind == api.Config }

// meet keeps what is known of voters that stay. New ones, for all that is known, have to be told the next entry.
func (r *Raft) meet(voters []int) {
	peers := map[int]peer{}
	for _, v := range conf.Without(voters, r.id) {
		p, known := r.peers[v]
		if !known {
			p.next = r.log.Last() + 1
		}
		peers[v] = p
	}
	r.peers = peers
}

// add puts an entry of the leader behind the others, and tells its Index.
func (r *Raft) add(kind int, data string) int {
	e := r.log.Add(r.term, kind, data)
	r.replicateAll()
	r.advance()
	return e.Index
}

func (r *Raft) replicateAll() {
	for _, v := range r.others() {
		r.replicate(v)
	}
}

func (r *Raft) replicate(v int) {
	next := r.peers[v].next
	if b := r.Base(); next <= b.Index {
		r.send(api.Msg{Kind: api.MSnap, To: v, Base: b})
		return
	}
	term, _ := r.log.Term(next - 1)
	r.send(api.Msg{
		Kind: api.MAppend, To: v, Index: next - 1, LogTerm: term,
		Commit: r.commit, Entries: r.log.Slice(next, api.MaxBatch),
	})
}

// advance commits what a majority has, if it is of the leader's own Term: what is older may still be replaced by another leader.
// A leader that is no voter any more goes once that is settled.
func (r *Raft) advance() {
	voters := r.Voters()
	n := conf.Agreed(r.matches(voters))
	if term, _ := r.log.Term(n); n <= r.commit || term != r.term {
		return
	}
	r.commit = n
	r.replicateAll()
	if !conf.Has(voters, r.id) && slices.Equal(r.log.Voters(n), voters) {
		r.obey(0)
		r.elapsed = 0
	}
}

// matches are up to where the log of each voter is the leader's.
func (r *Raft) matches(voters []int) []int {
	var l []int
	for _, v := range voters {
		if v == r.id {
			l = append(l, r.log.Last())
		} else {
			l = append(l, r.peers[v].match)
		}
	}
	return l
}

func (r *Raft) onAppends(m api.Msg) {
	if r.role != Leader || !conf.Has(r.Voters(), m.From) {
		return
	}
	if m.OK {
		r.confirmed(m.From, m.Index)
	} else {
		r.missed(m.From, m.Index)
	}
}

// confirmed takes note of how far a log matches, and goes on from there.
func (r *Raft) confirmed(v, index int) {
	p := r.peers[v]
	p.match = max(p.match, min(index, r.log.Last()))
	p.next = max(p.next, p.match+1)
	r.peers[v] = p
	r.advance()
	if r.role == Leader && p.next <= r.log.Last() {
		r.replicate(v)
	}
}

// missed goes back to where a log may match; the answer to an older message never leads behind what is known to match.
func (r *Raft) missed(v, hint int) {
	p := r.peers[v]
	p.next = max(min(p.next-1, hint+1), p.match+1)
	r.peers[v] = p
	r.replicate(v)
}
