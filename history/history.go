// Package history keeps the versions of keys and finds them by moments.
package history

import "slices"

// Version is what a key was given at a moment: a value, or that it was deleted.
type Version struct {
	Value   string
	Deleted bool
}

type place struct {
	key    string
	moment int
}

// History is the versions of all keys. The moments stand beside the versions
// because a map alone can't tell which version is the last one up to a moment.
type History struct {
	versions map[place]Version
	moments  map[string][]int
}

// New makes a history without versions.
func New() *History {
	return &History{versions: map[place]Version{}, moments: map[string][]int{}}
}

// Add takes in a version. The moment must be later than all others of its key:
// this keeps each key's moments in order.
func (h *History) Add(key string, moment int, v Version) {
	h.versions[place{key, moment}] = v
	h.moments[key] = append(h.moments[key], moment)
}

// Value tells what a key has at a moment, and whether it is there then.
func (h *History) Value(key string, moment int) (string, bool) {
	moments := h.moments[key]
	upTo, exact := slices.BinarySearch(moments, moment)
	if exact {
		upTo++
	}
	if upTo == 0 {
		return "", false
	}
	v := h.versions[place{key, moments[upTo-1]}]
	return v.Value, !v.Deleted
}

// ChangedAfter tells whether a key has a version later than a moment.
func (h *History) ChangedAfter(key string, moment int) bool {
	moments := h.moments[key]
	return len(moments) > 0 && moments[len(moments)-1] > moment
}

// Keys tells all keys that have versions, not below from, below to, in order.
func (h *History) Keys(from string, to string) []string {
	var keys []string
	for key := range h.moments {
		if from <= key && key < to {
			keys = append(keys, key)
		}
	}
	slices.Sort(keys)
	return keys
}
