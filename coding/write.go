// Package coding writes and reads the bytes of which logs and dumps are made:
// numbers, texts, versions, and sums.
package coding

import (
	"palimpsest/history"
	"palimpsest/sums"
)

// The first byte of a version.
const (
	hasValue  = 0
	isDeleted = 1
)

// sumSize is how many bytes a sum has.
const sumSize = 4

// AppendFour writes a number in four bytes, the lowest first.
func AppendFour(to []byte, n uint32) []byte {
	return append(to, byte(n), byte(n>>8), byte(n>>16), byte(n>>24))
}

// AppendText writes a text of at most 255 bytes behind its length.
func AppendText(to []byte, text string) []byte {
	return append(append(to, byte(len(text))), text...)
}

// AppendVersion writes a value, or that there is none any more.
func AppendVersion(to []byte, v history.Version) []byte {
	if v.Deleted {
		return append(to, isDeleted)
	}
	return AppendText(append(to, hasValue), v.Value)
}

// Seal writes the sum of all bytes behind them.
func Seal(content []byte) []byte {
	return AppendFour(content, sums.Of(content))
}
