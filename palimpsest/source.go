package palimpsest

import (
	"palimpsest/dump"
	"palimpsest/history"
	"palimpsest/journal"
)

// source is what a copy is made of: dumps, and commits of a log.
type source struct {
	dumps   []dump.Dump
	commits []journal.Record
}

// readSource tells what dumps and files say, and whether all of them are right.
func readSource(dumps [][]byte, files [][]byte) (source, bool) {
	var s source
	for _, data := range dumps {
		d, right := dump.Read(data)
		if !right {
			return source{}, false
		}
		s.dumps = append(s.dumps, d)
	}
	commits, right := journal.Commits(files)
	if !right {
		return source{}, false
	}
	s.commits = commits
	return s, true
}

// joined tells whether there is a dump, and nothing is missing from the first
// moment on to the last: between dumps, or between the last one and the commits.
func (s source) joined() bool {
	if len(s.dumps) == 0 {
		return false
	}
	reached := 0
	for _, d := range s.dumps {
		if d.Since != reached {
			return false
		}
		reached = d.Upto
	}
	return len(s.commits) == 0 || s.commits[0].Moment <= reached+1
}

// floor tells the first moment that can be asked.
func (s source) floor() int { return s.dumps[0].Floor }

// upto tells the last moment of the dumps.
func (s source) upto() int { return s.dumps[len(s.dumps)-1].Upto }

// end tells the last moment that can be asked.
func (s source) end() int {
	if len(s.commits) == 0 {
		return s.upto()
	}
	return max(s.upto(), s.commits[len(s.commits)-1].Moment)
}

// copyUpTo makes a copy. The dumps are in the order of their moments, and the
// commits that count are later than all of them: so each key's versions come in
// the order that a history needs.
func (s source) copyUpTo(t int) *Copy {
	c := &Copy{past{history: history.New(), horizon: s.floor(), now: t}}
	for _, d := range s.dumps {
		for _, e := range d.Entries {
			c.add(e.Key, e.Moment, e.Version)
		}
	}
	for _, r := range s.commits {
		if r.Moment <= s.upto() {
			continue
		}
		for _, w := range r.Writes {
			c.add(w.Key, r.Moment, w.Version)
		}
	}
	return c
}
