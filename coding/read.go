package coding

import (
	"palimpsest/history"
	"palimpsest/sums"
	"palimpsest/words"
)

// Unseal takes content of a known size, and the sum behind it, off the front:
// it tells the content, what stands behind the sum, and whether all was there
// and the sum is the content's.
func Unseal(data []byte, size int) (content []byte, behind []byte, right bool) {
	if len(data) < size+sumSize {
		return nil, nil, false
	}
	content = data[:size]
	r := NewReader(data[size : size+sumSize])
	if r.Four() != sums.Of(content) {
		return nil, nil, false
	}
	return content, data[size+sumSize:], true
}

// UnsealAll takes content apart from the sum behind it, if these are all bytes:
// it tells the content, and whether the sum is the content's.
func UnsealAll(data []byte) (content []byte, right bool) {
	if len(data) < sumSize {
		return nil, false
	}
	content, _, right = Unseal(data, len(data)-sumSize)
	return content, right
}

// Reader takes bytes apart from the front. What is missing, or may not stand
// where it stands, makes it wrong once and for all: so it is enough to ask in
// the end.
type Reader struct {
	rest  []byte
	wrong bool
}

// NewReader makes one that only reads the bytes.
func NewReader(data []byte) *Reader { return &Reader{rest: data} }

// One reads a number of one byte.
func (r *Reader) One() int {
	if b := r.take(1); b != nil {
		return int(b[0])
	}
	return 0
}

// Four reads a number of four bytes, the lowest first.
func (r *Reader) Four() uint32 {
	b := r.take(4)
	if b == nil {
		return 0
	}
	return uint32(b[0]) | uint32(b[1])<<8 | uint32(b[2])<<16 | uint32(b[3])<<24
}

// Key reads a text that is a key.
func (r *Reader) Key() string {
	key := r.text()
	if !words.IsKey(key) {
		r.wrong = true
	}
	return key
}

// Version reads a value that may be, or a deletion.
func (r *Reader) Version() history.Version {
	switch r.One() {
	case hasValue:
		value := r.text()
		if !words.IsValue(value) {
			r.wrong = true
		}
		return history.Version{Value: value}
	case isDeleted:
		return history.Version{Deleted: true}
	}
	r.wrong = true
	return history.Version{}
}

// More tells whether there is more to read. What is wrong has no more: so who
// reads on while there is more comes to an end.
func (r *Reader) More() bool { return !r.wrong && len(r.rest) > 0 }

// Done tells whether all was there and right, and nothing stands behind it.
func (r *Reader) Done() bool { return !r.wrong && len(r.rest) == 0 }

func (r *Reader) text() string { return string(r.take(r.One())) }

// take tells the next bytes, or nil if there are not so many.
func (r *Reader) take(count int) []byte {
	if r.wrong || len(r.rest) < count {
		r.wrong = true
		return nil
	}
	taken := r.rest[:count]
	r.rest = r.rest[count:]
	return taken
}
