// Package journal keeps the log: records in numbered files, and how much of
// them a crash can't take away.
package journal

import (
	"bytes"

	"palimpsest/api"
	"palimpsest/coding"
)

// magic is what every file begins with.
const magic = "PL1"

// openingSize is how many bytes that and a file's number have.
const openingSize = len(magic) + 4

// Journal is a log. One that nothing was added to has no files.
type Journal struct {
	files  [][]byte
	inLast int // how many records the last file has
	synced int // how many bytes, from the first file's first on, outlive a crash
}

// Add writes a record behind the others. A file comes with its first record.
func (j *Journal) Add(r Record) {
	if len(j.files) == 0 || j.inLast == api.SegRecords {
		j.files = append(j.files, opening(len(j.files)))
		j.inLast = 0
	}
	last := len(j.files) - 1
	j.files[last] = appendRecord(j.files[last], r)
	j.inLast++
}

// Files tells the bytes of all files.
func (j *Journal) Files() [][]byte { return j.first(j.size()) }

// Sync makes all bytes so far outlive a crash.
func (j *Journal) Sync() { j.synced = j.size() }

// Left tells what a crash leaves that keeps so many bytes behind the synced
// ones. The bounds come ahead of the sum, which any number may overflow.
func (j *Journal) Left(keep int) [][]byte {
	keep = max(0, min(keep, j.size()-j.synced))
	return j.first(j.synced + keep)
}

// first tells the first so many bytes, file by file.
func (j *Journal) first(count int) [][]byte {
	var files [][]byte
	for _, file := range j.files {
		if count == 0 {
			break
		}
		part := file[:min(count, len(file))]
		files = append(files, bytes.Clone(part))
		count -= len(part)
	}
	return files
}

func (j *Journal) size() int {
	size := 0
	for _, file := range j.files {
		size += len(file)
	}
	return size
}

func opening(number int) []byte {
	return coding.Seal(coding.AppendFour([]byte(magic), uint32(number)))
}
