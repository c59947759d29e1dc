package palimpsest

import (
	"maps"
	"slices"
	"strings"

	"palimpsest/api"
	"palimpsest/history"
	"palimpsest/journal"
	"palimpsest/words"
)

// transaction is one that is not over; one that is over is not kept at all.
type transaction struct {
	sees   int
	writes map[string]history.Version
}

// Begin begins a transaction (P4).
func (s *Store) Begin() (int, api.Errno) {
	if len(s.open) >= api.MaxOpen {
		return 0, api.ErrFull
	}
	s.begun++
	s.open[s.begun] = &transaction{sees: s.now, writes: map[string]history.Version{}}
	return s.begun, api.OK
}

// Get tells what a transaction sees (P5).
func (s *Store) Get(tx int, key string) (string, api.Errno) {
	t, open := s.open[tx]
	if !open {
		return "", api.ErrTx
	}
	if !words.IsKey(key) {
		return "", api.ErrArg
	}
	value, there := s.look(t, key)
	if !there {
		return "", api.ErrNone
	}
	return value, api.OK
}

// Scan tells all that a transaction sees between two keys (P5).
func (s *Store) Scan(tx int, from string, to string) ([]api.Pair, api.Errno) {
	t, open := s.open[tx]
	if !open {
		return nil, api.ErrTx
	}
	var pairs []api.Pair
	for _, key := range s.candidates(t, from, to) {
		if value, there := s.look(t, key); there {
			pairs = append(pairs, api.Pair{Key: key, Value: value})
		}
	}
	return pairs, api.OK
}

// Put writes in a transaction (P6).
func (s *Store) Put(tx int, key string, value string) api.Errno {
	t, open := s.open[tx]
	if !open {
		return api.ErrTx
	}
	if !words.IsKey(key) || !words.IsValue(value) {
		return api.ErrArg
	}
	return t.write(key, history.Version{Value: strings.Clone(value)})
}

// Delete deletes in a transaction (P6).
func (s *Store) Delete(tx int, key string) api.Errno {
	t, open := s.open[tx]
	if !open {
		return api.ErrTx
	}
	if !words.IsKey(key) {
		return api.ErrArg
	}
	return t.write(key, history.Version{Deleted: true})
}

// Commit ends a transaction (P7).
func (s *Store) Commit(tx int) (int, api.Errno) {
	t, open := s.open[tx]
	if !open {
		return 0, api.ErrTx
	}
	if len(t.writes) == 0 {
		delete(s.open, tx)
		return t.sees, api.OK
	}
	if s.overtaken(t) {
		delete(s.open, tx)
		return 0, api.ErrConflict
	}
	if s.now >= api.MaxMoments {
		return 0, api.ErrFull
	}
	s.do(t.record(s.now + 1))
	delete(s.open, tx)
	return s.now, api.OK
}

// Abort gives a transaction up (P7).
func (s *Store) Abort(tx int) api.Errno {
	if _, open := s.open[tx]; !open {
		return api.ErrTx
	}
	delete(s.open, tx)
	return api.OK
}

// look tells the value that a key has for a transaction, and whether it is there.
func (s *Store) look(t *transaction, key string) (string, bool) {
	if own, written := t.writes[key]; written {
		return own.Value, !own.Deleted
	}
	return s.history.Value(key, t.sees)
}

// candidates tells, in order and each once, the keys within the bounds that
// may be there for a transaction; only look knows whether they are.
func (s *Store) candidates(t *transaction, from string, to string) []string {
	keys := s.history.Keys(from, to)
	for key := range t.writes {
		if from <= key && key < to {
			keys = append(keys, key)
		}
	}
	slices.Sort(keys)
	return slices.Compact(keys)
}

// overtaken tells whether somebody else has committed one of the keys that a
// transaction has written since the moment that it sees.
func (s *Store) overtaken(t *transaction) bool {
	for key := range t.writes {
		if s.history.ChangedAfter(key, t.sees) {
			return true
		}
	}
	return false
}

// write takes in what a transaction writes. Texts are copied, since a short one
// may be a piece of a long one of the caller's, which would be kept with it.
func (t *transaction) write(key string, version history.Version) api.Errno {
	_, again := t.writes[key]
	if !again && len(t.writes) >= api.MaxWrites {
		return api.ErrFull
	}
	t.writes[strings.Clone(key)] = version
	return api.OK
}

// record tells what a transaction has written as the commit of a moment.
func (t *transaction) record(moment int) journal.Record {
	r := journal.Record{Kind: journal.Commit, Moment: moment}
	for _, key := range slices.Sorted(maps.Keys(t.writes)) {
		r.Writes = append(r.Writes, journal.Write{Key: key, Version: t.writes[key]})
	}
	return r
}
