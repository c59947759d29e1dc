package palimpsest

import (
	"palimpsest/api"
	"palimpsest/journal"
)

// Retain keeps moments from one on alone (P9).
func (s *Store) Retain(t int) api.Errno {
	if s.covers(t) != api.OK {
		return api.ErrArg
	}
	if s.pinnedAhead(t) {
		return api.ErrPinned
	}
	if t > s.horizon {
		s.do(journal.Record{Kind: journal.Horizon, Moment: t})
	}
	return api.OK
}

// Vacuum lets old versions go (P10).
func (s *Store) Vacuum(most int) int { return s.history.Vacuum(s.horizon, most) }

// Stored tells how many versions there are (P10).
func (s *Store) Stored() int { return s.history.Stored() }

// pinnedAhead tells whether somebody still needs a moment ahead of this one.
func (s *Store) pinnedAhead(t int) bool {
	for _, tx := range s.open {
		if tx.sees < t {
			return true
		}
	}
	for _, b := range s.undone {
		if b.needs < t {
			return true
		}
	}
	return false
}
