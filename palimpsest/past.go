package palimpsest

import (
	"palimpsest/api"
	"palimpsest/history"
	"palimpsest/words"
)

// past is what may be asked by moments: the versions, and the first and the
// last moment that they may be asked for.
type past struct {
	history *history.History
	horizon int
	now     int
}

// AsOf tells a key's value at a moment (P8).
func (s *Store) AsOf(t int, key string) (string, api.Errno) { return s.asOf(t, key) }

// Range tells all between two keys at a moment (P8).
func (s *Store) Range(t int, from string, to string) ([]api.Pair, api.Errno) {
	return s.between(t, from, to)
}

func (p *past) asOf(t int, key string) (string, api.Errno) {
	if !words.IsKey(key) {
		return "", api.ErrArg
	}
	if e := p.covers(t); e != api.OK {
		return "", e
	}
	value, there := p.history.Value(key, t)
	if !there {
		return "", api.ErrNone
	}
	return value, api.OK
}

func (p *past) between(t int, from string, to string) ([]api.Pair, api.Errno) {
	if e := p.covers(t); e != api.OK {
		return nil, e
	}
	var pairs []api.Pair
	for _, key := range p.history.Keys(from, to) {
		if value, there := p.history.Value(key, t); there {
			pairs = append(pairs, api.Pair{Key: key, Value: value})
		}
	}
	return pairs, api.OK
}

// covers tells whether a moment may be asked for, or why not.
func (p *past) covers(t int) api.Errno {
	if t < p.horizon {
		return api.ErrNotRetained
	}
	if t > p.now {
		return api.ErrFuture
	}
	return api.OK
}
