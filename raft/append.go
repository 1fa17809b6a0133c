package raft

import "kiosk/api"

func (r *Raft) onAppend(m api.Msg) {
	if r.role == Leader {
		return
	}
	r.obey(m.From)
	r.elapsed = 0
	index, first, ok := r.log.Match(m.Index, m.LogTerm, r.commit, m.Entries)
	if first > 0 {
		r.stored = min(r.stored, first-1)
	}
	if ok {
		r.commit = max(r.commit, min(m.Commit, index))
	}
	r.send(api.Msg{Kind: api.MAppends, To: m.From, OK: ok, Index: index})
}

func (r *Raft) onSnap(m api.Msg) {
	if r.role == Leader {
		return
	}
	r.obey(m.From)
	r.elapsed = 0
	if m.Base.Index > r.commit {
		r.restore(m.Base)
	}
	r.send(api.Msg{Kind: api.MAppends, To: m.From, OK: true, Index: r.commit})
}

// restore takes a base that stands in for everything stored: what entries are left have to be stored behind it.
func (r *Raft) restore(b api.Base) {
	r.log.Restore(b)
	r.commit, r.delivered, r.stored, r.restored = b.Index, b.Index, b.Index, true
}
