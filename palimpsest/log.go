package palimpsest

import (
	"palimpsest/api"
	"palimpsest/journal"
)

// Files tells the log (P11).
func (s *Store) Files() [][]byte { return s.log.Files() }

// Sync makes sure of all that was written (P12).
func (s *Store) Sync() { s.log.Sync() }

// Crash tells what is left of the log (P12).
func (s *Store) Crash(keep int) [][]byte { return s.log.Left(keep) }

// Recover makes a store of a log (P13).
func Recover(files [][]byte) (*Store, api.Errno) {
	s := New()
	for number, file := range files {
		last := number == len(files)-1
		if whole := s.replay(file, number); !whole && !last {
			return nil, api.ErrDamage
		}
	}
	s.log.Sync()
	return s, api.OK
}

// replay does what a file's records say, up to the first that is not right, and
// tells whether the file is whole.
func (s *Store) replay(file []byte, number int) bool {
	told, records, clean := journal.Read(file)
	if told != number {
		return false
	}
	for _, record := range records {
		if !s.mayFollow(record) {
			return false
		}
		s.do(record)
	}
	return clean && len(records) == api.SegRecords
}

// mayFollow tells whether this store could write a record next.
func (s *Store) mayFollow(r journal.Record) bool {
	if r.Kind == journal.Horizon {
		return s.horizon < r.Moment && r.Moment <= s.now
	}
	return r.Moment == s.now+1 && s.now < api.MaxMoments
}

// do makes true what a record says, and writes it to the log. Nothing else
// changes versions, now or the horizon, but Vacuum: so the log tells them all.
func (s *Store) do(r journal.Record) {
	s.log.Add(r)
	if r.Kind == journal.Horizon {
		s.horizon = r.Moment
		return
	}
	s.now = r.Moment
	for _, w := range r.Writes {
		s.history.Add(w.Key, s.now, w.Version)
	}
}
