package raft

import (
	"slices"

	"kiosk/api"
	"kiosk/conf"
)

func (r *Raft) Tick() {
	r.elapsed++
	if r.elapsed < r.patience() {
		return
	}
	r.elapsed = 0
	switch {
	case r.role == Leader:
		r.replicateAll()
	case conf.Has(r.Voters(), r.id):
		r.elect()
	}
}

// patience is how many ticks pass until something is done.
func (r *Raft) patience() int {
	if r.role == Leader {
		return api.HeartTicks
	}
	return r.timeout
}

func (r *Raft) elect() {
	r.term++
	r.role, r.vote, r.lead = Candidate, r.id, 0
	r.granted = []int{r.id}
	last := r.log.Last()
	term, _ := r.log.Term(last)
	for _, v := range r.others() {
		r.send(api.Msg{Kind: api.MVote, To: v, Index: last, LogTerm: term})
	}
	r.count()
}

// others are the other voters, as messages go to them. New takes any voters, even some that do not rise.
func (r *Raft) others() []int {
	l := conf.Without(r.Voters(), r.id)
	slices.Sort(l)
	return slices.Compact(l)
}

// count makes a candidate the leader once its votes are enough.
func (r *Raft) count() {
	if conf.Most(r.Voters(), r.granted) {
		r.win()
	}
}

func (r *Raft) win() {
	r.role, r.lead, r.elapsed, r.granted = Leader, r.id, 0, nil
	r.meet(r.Voters())
	r.add(api.Noop, "")
}
