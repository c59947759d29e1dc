// Package history keeps the versions of keys and finds them by moments.
package history

import (
	"maps"
	"slices"
)

// Version is what a key was given at a moment: a value, or that it was deleted.
type Version struct {
	Value   string
	Deleted bool
}

// Entry is a version with its place: whose it is, and since when.
type Entry struct {
	Key     string
	Moment  int
	Version Version
}

type place struct {
	key    string
	moment int
}

// History is the versions of all keys. The moments stand beside the versions
// because a map alone can't tell which version is the last one up to a moment.
type History struct {
	versions map[place]Version
	moments  map[string][]int
}

// New makes a history without versions.
func New() *History {
	return &History{versions: map[place]Version{}, moments: map[string][]int{}}
}

// Add takes in a version. The moment must be later than all others of its key:
// this keeps each key's moments in order.
func (h *History) Add(key string, moment int, v Version) {
	h.versions[place{key, moment}] = v
	h.moments[key] = append(h.moments[key], moment)
}

// Value tells what a key has at a moment, and whether it is there then.
func (h *History) Value(key string, moment int) (string, bool) {
	moments := h.moments[key]
	early := countUpTo(moments, moment)
	if early == 0 {
		return "", false
	}
	v := h.versions[place{key, moments[early-1]}]
	return v.Value, !v.Deleted
}

// ChangedAfter tells whether a key has a version later than a moment.
func (h *History) ChangedAfter(key string, moment int) bool {
	moments := h.moments[key]
	return len(moments) > 0 && moments[len(moments)-1] > moment
}

// Keys tells all keys that have versions, not below from, below to, in order.
func (h *History) Keys(from string, to string) []string {
	var keys []string
	for key := range h.moments {
		if from <= key && key < to {
			keys = append(keys, key)
		}
	}
	slices.Sort(keys)
	return keys
}

// After tells all versions later than a moment, by keys, of one key by moments.
func (h *History) After(moment int) []Entry {
	var entries []Entry
	for _, key := range slices.Sorted(maps.Keys(h.moments)) {
		moments := h.moments[key]
		for _, later := range moments[countUpTo(moments, moment):] {
			v := h.versions[place{key, later}]
			entries = append(entries, Entry{Key: key, Moment: later, Version: v})
		}
	}
	return entries
}

// Stored tells how many versions there are.
func (h *History) Stored() int { return len(h.versions) }

// Vacuum lets go at most so many of the versions that nobody needs who asks
// from the horizon on, the first ones by keys, of one key by moments. It tells
// how many went.
func (h *History) Vacuum(horizon int, most int) int {
	gone := 0
	for _, key := range h.spentKeys(horizon) {
		count := min(h.spent(key, horizon), most-gone)
		if count < 1 {
			break
		}
		h.dropFirst(key, count)
		gone += count
	}
	return gone
}

// spentKeys tells the keys of which a version may go, in order.
func (h *History) spentKeys(horizon int) []string {
	var keys []string
	for key := range h.moments {
		if h.spent(key, horizon) > 0 {
			keys = append(keys, key)
		}
	}
	slices.Sort(keys)
	return keys
}

// spent tells how many of a key's versions may go: these are always its first
// ones, since what is ahead of one that may go may go too. The last one up to
// the horizon tells what the key has there, so it stays, unless it tells that
// the key isn't there: so does having no version.
func (h *History) spent(key string, horizon int) int {
	moments := h.moments[key]
	early := countUpTo(moments, horizon)
	if early == 0 || h.versions[place{key, moments[early-1]}].Deleted {
		return early
	}
	return early - 1
}

func (h *History) dropFirst(key string, count int) {
	moments := h.moments[key]
	for _, moment := range moments[:count] {
		delete(h.versions, place{key, moment})
	}
	if count == len(moments) {
		delete(h.moments, key)
		return
	}
	h.moments[key] = slices.Delete(moments, 0, count)
}

// countUpTo tells how many of the moments, which are in order, are not above one.
func countUpTo(moments []int, moment int) int {
	count, exact := slices.BinarySearch(moments, moment)
	if exact {
		count++
	}
	return count
}
