package palimpsest

import (
	"palimpsest/api"
	"palimpsest/dump"
)

// backup is one that is not done; one that is done is not kept at all.
type backup struct {
	needs   int // a moment that stays readable
	telling *dump.Telling
}

// Backup begins a backup (P14). The versions are listed at once: a Vacuum may
// let them go until they are told.
func (s *Store) Backup(since int) (int, api.Errno) {
	if since != 0 && s.covers(since) != api.OK {
		return 0, api.ErrArg
	}
	if len(s.undone) >= api.MaxBackups {
		return 0, api.ErrFull
	}
	s.taken++
	s.undone[s.taken] = &backup{
		needs: max(since, s.horizon),
		telling: dump.Tell(dump.Dump{
			Since:   since,
			Upto:    s.now,
			Floor:   s.horizon,
			Entries: s.history.After(since),
		}),
	}
	return s.taken, api.OK
}

// Step goes on with a backup (P15).
func (s *Store) Step(backup int, most int) ([]byte, bool, api.Errno) {
	b, undone := s.undone[backup]
	if !undone {
		return nil, false, api.ErrBackup
	}
	piece, all := b.telling.Next(most)
	if all {
		delete(s.undone, backup)
	}
	return piece, all, api.OK
}
