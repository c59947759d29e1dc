package history

import (
	"math"
	"slices"
	"testing"
)

func sample() *History {
	h := New()
	h.Add("b", 2, Version{Value: "two"})
	h.Add("b", 5, Version{Deleted: true})
	h.Add("b", 7, Version{})
	h.Add("a", 3, Version{Value: "three"})
	h.Add("c", 4, Version{Deleted: true})
	return h
}

func TestValueAtEachMoment(t *testing.T) {
	h := sample()
	for _, c := range []struct {
		key    string
		moment int
		value  string
		there  bool
	}{
		{"b", math.MinInt, "", false}, {"b", 0, "", false}, {"b", 1, "", false},
		{"b", 2, "two", true}, {"b", 3, "two", true}, {"b", 4, "two", true},
		{"b", 5, "", false}, {"b", 6, "", false},
		{"b", 7, "", true}, {"b", 8, "", true}, {"b", math.MaxInt, "", true},
		{"a", 2, "", false}, {"a", 3, "three", true}, {"a", math.MaxInt, "three", true},
		{"c", 3, "", false}, {"c", 4, "", false}, {"c", math.MaxInt, "", false},
		{"d", 4, "", false}, {"", 4, "", false},
	} {
		if value, there := h.Value(c.key, c.moment); value != c.value || there != c.there {
			t.Errorf("Value(%q, %d) = %q, %v, want %q, %v", c.key, c.moment, value, there, c.value, c.there)
		}
	}
}

func TestChangedAfter(t *testing.T) {
	h := sample()
	for _, c := range []struct {
		key    string
		moment int
		want   bool
	}{
		{"b", 0, true}, {"b", 2, true}, {"b", 6, true}, {"b", 7, false}, {"b", 8, false},
		{"c", 3, true}, {"c", 4, false}, // a deletion is a version too
		{"d", 0, false}, {"d", math.MinInt, false},
	} {
		if got := h.ChangedAfter(c.key, c.moment); got != c.want {
			t.Errorf("ChangedAfter(%q, %d) = %v, want %v", c.key, c.moment, got, c.want)
		}
	}
}

func TestKeysInOrderWithinBounds(t *testing.T) {
	h := New()
	for _, key := range []string{"z", "a", "0", "aa", "b", "9"} {
		h.Add(key, 1, Version{})
	}
	for _, c := range []struct {
		from, to string
		want     []string
	}{
		{"", "~", []string{"0", "9", "a", "aa", "b", "z"}},
		{"a", "b", []string{"a", "aa"}},
		{"a\x00", "b\x00", []string{"aa", "b"}},
		{"b", "b", nil}, {"b", "a", nil}, {"", "", nil}, {"~", "\xff", nil},
	} {
		if got := h.Keys(c.from, c.to); !slices.Equal(got, c.want) {
			t.Errorf("Keys(%q, %q) = %q, want %q", c.from, c.to, got, c.want)
		}
	}
}
