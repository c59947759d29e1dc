// Package palimpsest: a store in which old values stay readable: see DOC.md.
package palimpsest

import (
	"palimpsest/history"
	"palimpsest/journal"
)

// Store is one.
type Store struct {
	past
	log    journal.Journal
	begun  int // how many transactions there ever were: their numbers are never used again
	open   map[int]*transaction
	taken  int // how many backups there ever were, likewise
	undone map[int]*backup
}

// New makes one (P3).
func New() *Store {
	return &Store{
		past:   past{history: history.New()},
		open:   map[int]*transaction{},
		undone: map[int]*backup{},
	}
}

// Now tells the last moment (P7).
func (s *Store) Now() int { return s.now }
