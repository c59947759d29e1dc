package journal

import (
	"bytes"

	"palimpsest/api"
	"palimpsest/coding"
)

// Read tells a file's number, its records up to the first that is not written
// as a record must be, and whether nothing but these stands in the file. Of a
// file whose opening is not right nothing is told.
func Read(file []byte) (number int, records []Record, clean bool) {
	number, rest, right := cutOpening(file)
	if !right {
		return 0, nil, false
	}
	for len(records) < api.SegRecords {
		record, behind, right := cutRecord(rest)
		if !right {
			break
		}
		records = append(records, record)
		rest = behind
	}
	return number, records, len(rest) == 0
}

// Commits tells the commits of files that follow each other in a log, from any
// of its files on, and whether the files are right.
func Commits(files [][]byte) (commits []Record, right bool) {
	records, right := readAll(files)
	if !right {
		return nil, false
	}
	var far reach
	for _, r := range records {
		if !far.allows(r) {
			return nil, false
		}
		if r.Kind == Horizon {
			far.horizon = r.Moment
			continue
		}
		far.commit = r.Moment
		commits = append(commits, r)
	}
	return commits, true
}

// readAll tells the records of files, and whether their numbers follow each
// other, all but the last are full, and nothing else stands in them.
func readAll(files [][]byte) ([]Record, bool) {
	var all []Record
	next := 0
	for i, file := range files {
		number, records, clean := Read(file)
		follows := i == 0 || number == next
		last := i == len(files)-1
		filled := len(records) == api.SegRecords || last && len(records) > 0
		if !clean || !follows || !filled {
			return nil, false
		}
		all = append(all, records...)
		next = number + 1
	}
	return all, true
}

// reach is how far records have come: the moment of the last commit and the
// last horizon, 0 as long as there is none. What came ahead of the first file
// is not known: so the first of each may be of nearly any moment.
type reach struct {
	commit  int
	horizon int
}

func (far reach) allows(r Record) bool {
	known := far.commit > 0
	if r.Kind == Horizon {
		return r.Moment > far.horizon && (!known || r.Moment <= far.commit)
	}
	return 1 <= r.Moment && r.Moment <= api.MaxMoments && (!known || r.Moment == far.commit+1)
}

// cutOpening takes the opening off a file: it tells the file's number, what
// stands behind the opening, and whether that is right.
func cutOpening(file []byte) (number int, behind []byte, right bool) {
	content, behind, right := coding.Unseal(file, openingSize)
	if !right {
		return 0, nil, false
	}
	told, right := bytes.CutPrefix(content, []byte(magic))
	if !right {
		return 0, nil, false
	}
	return int(coding.NewReader(told).Four()), behind, true
}
