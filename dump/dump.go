// Package dump writes and reads dumps: the versions of a store, from one moment
// up to another, as bytes.
package dump

import "palimpsest/history"

// magic is what every dump begins with.
const magic = "PB1"

// Dump is one: the versions above since, not above upto, of a store whose
// horizon was the floor.
type Dump struct {
	Since, Upto, Floor int
	Entries            []history.Entry // by keys, of one key by moments
}

// mayBe tells whether a store can have told this.
func (d Dump) mayBe() bool {
	if d.Since > d.Upto || d.Floor > d.Upto || d.Since != 0 && d.Since < d.Floor {
		return false
	}
	for i, e := range d.Entries {
		if e.Moment <= d.Since || e.Moment > d.Upto {
			return false
		}
		if i > 0 && !ahead(d.Entries[i-1], e) {
			return false
		}
	}
	return true
}

// ahead tells whether a version stands ahead of another in a dump.
func ahead(a, b history.Entry) bool {
	return a.Key < b.Key || a.Key == b.Key && a.Moment < b.Moment
}
