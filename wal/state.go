package wal

import (
	"strings"

	"kiosk/api"
)

// state is what the records that were read come to. The entries have no gaps.
type state struct {
	hard    api.Hard
	entries []api.Entry
}

func (s *state) take(r record) {
	switch r.kind {
	case hardKind:
		s.hard = r.hard
	case entryKind:
		s.put(r.entry)
	case resetKind:
		s.entries = nil
	}
}

// put keeps a copy of the data, which may be a piece of a long text.
func (s *state) put(x api.Entry) {
	x.Data = strings.Clone(x.Data)
	s.entries = append(s.entries[:s.ahead(x.Index)], x)
}

// ahead is how many of the entries stay ahead of one that is put in at index. (last+1 wraps around, as P6 says of all numbers.)
func (s *state) ahead(index int) int {
	if len(s.entries) == 0 {
		return 0
	}
	first, last := s.entries[0].Index, s.entries[len(s.entries)-1].Index
	if index > last+1 || index < first {
		return 0
	}
	return index - first
}
