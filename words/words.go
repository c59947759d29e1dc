// Package words tells which texts may be keys and which may be values.
package words

import "palimpsest/api"

// IsKey tells whether a text may be a key.
func IsKey(text string) bool {
	if len(text) < 1 || len(text) > api.MaxKey {
		return false
	}
	for i := range len(text) {
		if !isKeyByte(text[i]) {
			return false
		}
	}
	return true
}

// IsValue tells whether a text may be a value.
func IsValue(text string) bool {
	return len(text) <= api.MaxValue
}

func isKeyByte(b byte) bool {
	return 'a' <= b && b <= 'z' || '0' <= b && b <= '9'
}
