package words

import (
	"strings"
	"testing"

	"palimpsest/api"
)

func TestIsKeyByLength(t *testing.T) {
	for n := range 3 * api.MaxKey {
		if got, want := IsKey(strings.Repeat("k", n)), 1 <= n && n <= api.MaxKey; got != want {
			t.Errorf("IsKey of %d bytes = %v, want %v", n, got, want)
		}
	}
}

func TestIsKeyByEachByte(t *testing.T) {
	for b := range 256 {
		want := strings.Contains("abcdefghijklmnopqrstuvwxyz0123456789", string([]byte{byte(b)}))
		for _, text := range []string{"%", "%a", "a%", "0%z"} {
			text = strings.Replace(text, "%", string([]byte{byte(b)}), 1)
			if got := IsKey(text); got != want {
				t.Errorf("IsKey(%q) = %v, want %v", text, got, want)
			}
		}
	}
}

func TestIsKeyCountsBytesNotRunes(t *testing.T) {
	for _, text := range []string{"é", "aé", "ａ", "\u0660"} {
		if IsKey(text) {
			t.Errorf("IsKey(%q) = true", text)
		}
	}
}

func TestIsValue(t *testing.T) {
	for n := range 3 * api.MaxValue {
		for _, b := range []string{"v", "\x00", "\xff", " "} {
			if got, want := IsValue(strings.Repeat(b, n)), n <= api.MaxValue; got != want {
				t.Errorf("IsValue of %d bytes %q = %v, want %v", n, b, got, want)
			}
		}
	}
	if IsValue(strings.Repeat("é", api.MaxValue/2+1)) {
		t.Errorf("IsValue counts runes, not bytes")
	}
}
