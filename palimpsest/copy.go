package palimpsest

import (
	"palimpsest/api"
	"palimpsest/history"
)

// Copy is what was restored.
type Copy struct {
	past
}

// Restore makes a copy as of a moment (P16).
func Restore(dumps [][]byte, files [][]byte, t int) (*Copy, api.Errno) {
	source, right := readSource(dumps, files)
	if !right {
		return nil, api.ErrDamage
	}
	if !source.joined() {
		return nil, api.ErrGap
	}
	if t < source.floor() {
		return nil, api.ErrNotRetained
	}
	if t > source.end() {
		return nil, api.ErrFuture
	}
	return source.copyUpTo(t), api.OK
}

// Span tells from which moment to which (P17).
func (c *Copy) Span() (int, int) { return c.horizon, c.now }

// AsOf tells a key's value at a moment (P17).
func (c *Copy) AsOf(t int, key string) (string, api.Errno) { return c.asOf(t, key) }

// Range tells all between two keys at a moment (P17).
func (c *Copy) Range(t int, from string, to string) ([]api.Pair, api.Errno) {
	return c.between(t, from, to)
}

// add takes in a version, unless it is later than all that may be asked.
func (c *Copy) add(key string, moment int, v history.Version) {
	if moment <= c.now {
		c.history.Add(key, moment, v)
	}
}
