package dump

import (
	"bytes"

	"palimpsest/coding"
	"palimpsest/history"
)

// Read tells the dump that bytes are, and whether they are one.
func Read(data []byte) (Dump, bool) {
	content, right := coding.UnsealAll(data)
	if !right {
		return Dump{}, false
	}
	content, right = bytes.CutPrefix(content, []byte(magic))
	if !right {
		return Dump{}, false
	}
	d, right := readContent(coding.NewReader(content))
	if !right || !d.mayBe() {
		return Dump{}, false
	}
	return d, true
}

// readContent goes by the bytes that are there, and holds their count against
// the one that is told only in the end: that may be any number.
func readContent(r *coding.Reader) (Dump, bool) {
	var d Dump
	d.Since = int(r.Four())
	d.Upto = int(r.Four())
	d.Floor = int(r.Four())
	count := int(r.Four())
	for r.More() {
		d.Entries = append(d.Entries, readEntry(r))
	}
	return d, r.Done() && len(d.Entries) == count
}

func readEntry(r *coding.Reader) history.Entry {
	var e history.Entry
	e.Key = r.Key()
	e.Moment = int(r.Four())
	e.Version = r.Version()
	return e
}
