// Package palimpsest: a store in which old values stay readable: see DOC.md.
package palimpsest

import (
	"palimpsest/api"
	"palimpsest/history"
	"palimpsest/journal"
)

// Store is one.
type Store struct {
	past
	log   journal.Journal
	begun int // how many transactions there ever were: their numbers are never used again
	open  map[int]*transaction
}

// New makes one (P3).
func New() *Store {
	return &Store{past: past{history: history.New()}, open: map[int]*transaction{}}
}

// Now tells the last moment (P7).
func (s *Store) Now() int { return s.now }

// Backup begins a backup (P14).
func (s *Store) Backup(since int) (int, api.Errno) { return 0, api.OK }

// Step goes on with a backup (P15).
func (s *Store) Step(backup int, most int) ([]byte, bool, api.Errno) { return nil, false, api.OK }

// Copy is what was restored.
type Copy struct{}

// Restore makes a copy as of a moment (P16).
func Restore(dumps [][]byte, files [][]byte, t int) (*Copy, api.Errno) { return nil, api.OK }

// Span tells from which moment to which (P17).
func (c *Copy) Span() (int, int) { return 0, 0 }

// AsOf tells a key's value at a moment (P17).
func (c *Copy) AsOf(t int, key string) (string, api.Errno) { return "", api.OK }

// Range tells all between two keys at a moment (P17).
func (c *Copy) Range(t int, from string, to string) ([]api.Pair, api.Errno) { return nil, api.OK }
