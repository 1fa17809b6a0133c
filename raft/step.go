package raft

import (
	"kiosk/api"
	"kiosk/conf"
	"kiosk/msg"
)

const maxData = 65000 // bytes of an entry

// Step processes a message.
func (r *Raft) Step(m api.Msg) {
	if !r.hears(m) {
		return
	}
	switch m.Kind {
	case api.MVote:
		r.handle(m, (*Raft).onVote)
	case api.MVoted:
		r.handle(m, (*Raft).onVoted)
	case api.MAppend:
		r.handle(m, (*Raft).onAppend)
	case api.MAppends:
		r.handle(m, (*Raft).onAppends)
	case api.MSnap:
		r.handle(m, (*Raft).onSnap)
	}
}

// hears tells whether a message is to be looked at, whatever its Term.
func (r *Raft) hears(m api.Msg) bool {
	return msg.Right(m) && m.To == r.id && m.From != r.id && fits(m) && !r.content(m)
}

// fits tells whether a valid message is one that a node may send to another.
func fits(m api.Msg) bool {
	switch m.Kind {
	case api.MAppend:
		return follow(m.Index, m.Entries)
	case api.MSnap:
		return m.Base.Index > 0 && len(m.Base.Voters) > 0
	}
	return m.Kind != api.MForward
}

// follow tells whether entries lie behind an Index, one behind the other, and none is too long.
func follow(index int, l []api.Entry) bool {
	for k, e := range l {
		if e.Index != index+1+k || len(e.Data) > maxData {
			return false
		}
	}
	return true
}

// content tells whether a message asks for an election, but there is a leader: one that was cut off must not disturb the others.
func (r *Raft) content(m api.Msg) bool {
	return m.Kind == api.MVote && m.Term > r.term &&
		(r.role == Leader || r.lead != 0 && r.elapsed < 2*api.HeartTicks)
}

// handle calls a handler in the Term of the message, unless that Term is over.
func (r *Raft) handle(m api.Msg, handler func(*Raft, api.Msg)) {
	if m.Term < r.term {
		r.refuse(m)
		return
	}
	if m.Term > r.term {
		r.stepDown(m.Term)
	}
	handler(r, m)
}

// refuse answers those who believe that they may lead: the answer tells them the Term.
func (r *Raft) refuse(m api.Msg) {
	switch m.Kind {
	case api.MVote:
		r.send(api.Msg{Kind: api.MVoted, To: m.From})
	case api.MAppend, api.MSnap:
		r.send(api.Msg{Kind: api.MAppends, To: m.From})
	}
}

// stepDown leaves elapsed as it is: a new Term alone does not put off the next election.
func (r *Raft) stepDown(term int) {
	r.obey(0)
	r.term, r.vote = term, 0
}

// obey makes the node a follower, of that leader (0: of none).
func (r *Raft) obey(lead int) {
	r.role, r.lead = Follower, lead
	r.granted, r.peers = nil, nil
}

func (r *Raft) onVote(m api.Msg) {
	ok := (r.vote == 0 || r.vote == m.From) && r.log.Newer(m.Index, m.LogTerm)
	if ok {
		r.vote, r.elapsed = m.From, 0
	}
	r.send(api.Msg{Kind: api.MVoted, To: m.From, OK: ok})
}

func (r *Raft) onVoted(m api.Msg) {
	if r.role == Candidate && m.OK {
		r.granted = conf.With(r.granted, m.From)
		r.count()
	}
}
