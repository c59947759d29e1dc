package journal

import (
	"palimpsest/api"
	"palimpsest/coding"
	"palimpsest/history"
)

// Kind is what a record tells of: the first byte of its body.
type Kind byte

const (
	Commit  Kind = 'C'
	Horizon Kind = 'H'
)

// Record is one of the log's: a commit with what it wrote, or a horizon.
type Record struct {
	Kind   Kind
	Moment int
	Writes []Write // of a commit alone: by keys, each once
}

// Write is what a commit has written for a key.
type Write struct {
	Key     string
	Version history.Version
}

// lengthSize is how many bytes tell the length of a record's body.
const lengthSize = 2

// appendRecord writes a record.
func appendRecord(to []byte, r Record) []byte {
	body := bodyOf(r)
	sized := append([]byte{byte(len(body)), byte(len(body) >> 8)}, body...)
	return append(to, coding.Seal(sized)...)
}

func bodyOf(r Record) []byte {
	body := coding.AppendFour([]byte{byte(r.Kind)}, uint32(r.Moment))
	if r.Kind == Horizon {
		return body
	}
	body = append(body, byte(len(r.Writes)))
	for _, w := range r.Writes {
		body = coding.AppendVersion(coding.AppendText(body, w.Key), w.Version)
	}
	return body
}

// cutRecord takes a record off the bytes that begin with it: it tells the
// record, what stands behind it, and whether it is written as a record must be.
// Whether it may follow those ahead of it, the caller has to know.
func cutRecord(data []byte) (record Record, behind []byte, right bool) {
	if len(data) < lengthSize {
		return Record{}, nil, false
	}
	length := int(data[0]) + int(data[1])<<8
	sized, behind, right := coding.Unseal(data, lengthSize+length)
	if !right {
		return Record{}, nil, false
	}
	record, right = readBody(sized[lengthSize:])
	if !right {
		return Record{}, nil, false
	}
	return record, behind, true
}

func readBody(body []byte) (Record, bool) {
	r := coding.NewReader(body)
	record := Record{Kind: Kind(r.One())}
	record.Moment = int(r.Four())
	switch record.Kind {
	case Commit:
		record.Writes = readWrites(r)
		return record, r.Done() && mayBeWrites(record.Writes)
	case Horizon:
		return record, r.Done()
	}
	return Record{}, false
}

func readWrites(r *coding.Reader) []Write {
	var writes []Write
	for range r.One() {
		key := r.Key()
		writes = append(writes, Write{Key: key, Version: r.Version()})
	}
	return writes
}

// mayBeWrites tells whether a transaction can have written so many keys, and
// each stands behind the one ahead of it.
func mayBeWrites(writes []Write) bool {
	for i := 1; i < len(writes); i++ {
		if writes[i-1].Key >= writes[i].Key {
			return false
		}
	}
	return 1 <= len(writes) && len(writes) <= api.MaxWrites
}
