package history

import (
	"math"
	"slices"
	"strconv"
	"strings"
	"testing"
)

func sample() *History {
	h := New()
	h.Add("b", 2, Version{Value: "two"})
	h.Add("b", 5, Version{Deleted: true})
	h.Add("b", 7, Version{})
	h.Add("a", 3, Version{Value: "three"})
	h.Add("c", 4, Version{Deleted: true})
	return h
}

func TestValueAtEachMoment(t *testing.T) {
	h := sample()
	for _, c := range []struct {
		key    string
		moment int
		value  string
		there  bool
	}{
		{"b", math.MinInt, "", false}, {"b", 0, "", false}, {"b", 1, "", false},
		{"b", 2, "two", true}, {"b", 3, "two", true}, {"b", 4, "two", true},
		{"b", 5, "", false}, {"b", 6, "", false},
		{"b", 7, "", true}, {"b", 8, "", true}, {"b", math.MaxInt, "", true},
		{"a", 2, "", false}, {"a", 3, "three", true}, {"a", math.MaxInt, "three", true},
		{"c", 3, "", false}, {"c", 4, "", false}, {"c", math.MaxInt, "", false},
		{"d", 4, "", false}, {"", 4, "", false},
	} {
		if value, there := h.Value(c.key, c.moment); value != c.value || there != c.there {
			t.Errorf("Value(%q, %d) = %q, %v, want %q, %v", c.key, c.moment, value, there, c.value, c.there)
		}
	}
}

func TestChangedAfter(t *testing.T) {
	h := sample()
	for _, c := range []struct {
		key    string
		moment int
		want   bool
	}{
		{"b", 0, true}, {"b", 2, true}, {"b", 6, true}, {"b", 7, false}, {"b", 8, false},
		{"c", 3, true}, {"c", 4, false}, // a deletion is a version too
		{"d", 0, false}, {"d", math.MinInt, false},
	} {
		if got := h.ChangedAfter(c.key, c.moment); got != c.want {
			t.Errorf("ChangedAfter(%q, %d) = %v, want %v", c.key, c.moment, got, c.want)
		}
	}
}

func TestKeysInOrderWithinBounds(t *testing.T) {
	h := New()
	for _, key := range []string{"z", "a", "0", "aa", "b", "9"} {
		h.Add(key, 1, Version{})
	}
	for _, c := range []struct {
		from, to string
		want     []string
	}{
		{"", "~", []string{"0", "9", "a", "aa", "b", "z"}},
		{"a", "b", []string{"a", "aa"}},
		{"a\x00", "b\x00", []string{"aa", "b"}},
		{"b", "b", nil}, {"b", "a", nil}, {"", "", nil}, {"~", "\xff", nil},
	} {
		if got := h.Keys(c.from, c.to); !slices.Equal(got, c.want) {
			t.Errorf("Keys(%q, %q) = %q, want %q", c.from, c.to, got, c.want)
		}
	}
}

// stored tells the versions by keys, of one key by moments: "a3 b2 b5".
func stored(t *testing.T, h *History) string {
	t.Helper()
	var places []string
	for _, key := range h.Keys("", "~") {
		if len(h.moments[key]) == 0 {
			t.Errorf("%q is told as a key with versions", key)
		}
		for _, moment := range h.moments[key] {
			if _, there := h.versions[place{key, moment}]; !there {
				t.Errorf("no version of %q at its moment %d", key, moment)
			}
			places = append(places, key+strconv.Itoa(moment))
		}
	}
	if h.Stored() != len(places) {
		t.Errorf("Stored() = %d, but there are %d moments", h.Stored(), len(places))
	}
	return strings.Join(places, " ")
}

func wantVacuum(t *testing.T, h *History, horizon, most, gone int, left string) {
	t.Helper()
	if got := h.Vacuum(horizon, most); got != gone {
		t.Errorf("Vacuum(%d, %d) = %d, want %d", horizon, most, got, gone)
	}
	if got := stored(t, h); got != left {
		t.Errorf("Vacuum(%d, %d) has left %q, want %q", horizon, most, got, left)
	}
}

func TestVacuumFirstByKeysThenByMoments(t *testing.T) {
	h := New()
	for moment := 1; moment <= 3; moment++ {
		for _, key := range []string{"c", "a", "b"} {
			h.Add(key, moment, Version{Deleted: key == "b" && moment == 3})
		}
	}
	wantVacuum(t, h, 3, 0, 0, "a1 a2 a3 b1 b2 b3 c1 c2 c3")
	wantVacuum(t, h, 3, 1, 1, "a2 a3 b1 b2 b3 c1 c2 c3")
	wantVacuum(t, h, 3, 2, 2, "a3 b2 b3 c1 c2 c3")
	wantVacuum(t, h, 3, 1, 1, "a3 b3 c1 c2 c3")
	wantVacuum(t, h, 3, 1, 1, "a3 c1 c2 c3")
	wantVacuum(t, h, 3, math.MaxInt, 2, "a3 c3")
	wantVacuum(t, h, math.MaxInt, math.MaxInt, 0, "a3 c3")
}

func TestVacuumUpToTheHorizonAlone(t *testing.T) {
	for _, c := range []struct {
		horizon, gone int
		left          string
	}{
		{math.MinInt, 0, "a3 b2 b5 b7 c4"}, {0, 0, "a3 b2 b5 b7 c4"}, {3, 0, "a3 b2 b5 b7 c4"},
		{4, 1, "a3 b2 b5 b7"}, {5, 3, "a3 b7"}, {6, 3, "a3 b7"}, {7, 3, "a3 b7"}, {math.MaxInt, 3, "a3 b7"},
	} {
		wantVacuum(t, sample(), c.horizon, math.MaxInt, c.gone, c.left)
		wantVacuum(t, sample(), c.horizon, 0, 0, "a3 b2 b5 b7 c4")
		wantVacuum(t, sample(), c.horizon, math.MinInt, 0, "a3 b2 b5 b7 c4")
	}
}

func TestAddAfterVacuum(t *testing.T) {
	h := sample()
	wantVacuum(t, h, 6, 9, 3, "a3 b7")
	h.Add("b", 8, Version{Value: "eight"})
	h.Add("c", 8, Version{Value: "again"})
	if got := stored(t, h); got != "a3 b7 b8 c8" {
		t.Errorf("stored: %q", got)
	}
	for _, key := range []string{"b", "c"} {
		if _, there := h.Value(key, 6); there {
			t.Errorf("%q is there at 6", key)
		}
	}
	if value, there := h.Value("c", 8); value != "again" || !there {
		t.Errorf("Value(c, 8) = %q, %v", value, there)
	}
}

// told tells what After tells, as stored does.
func told(h *History, moment int) string {
	var places []string
	for _, e := range h.After(moment) {
		places = append(places, e.Key+strconv.Itoa(e.Moment))
	}
	return strings.Join(places, " ")
}

func TestAfterByKeysThenByMoments(t *testing.T) {
	for moment, want := range map[int]string{
		math.MinInt: "a3 b2 b5 b7 c4", 0: "a3 b2 b5 b7 c4", 1: "a3 b2 b5 b7 c4", 2: "a3 b5 b7 c4", 3: "b5 b7 c4", 4: "b5 b7",
		5: "b7", 6: "b7", 7: "", math.MaxInt: "",
	} {
		if got := told(sample(), moment); got != want {
			t.Errorf("After(%d) = %q, want %q", moment, got, want)
		}
	}
	if got := New().After(0); len(got) != 0 {
		t.Errorf("After(0) of nothing = %v", got)
	}
}

func TestAfterTellsTheVersions(t *testing.T) {
	want := []Entry{
		{"b", 5, Version{Deleted: true}}, {"b", 7, Version{}}, {"c", 4, Version{Deleted: true}}, {"c", 9, Version{Value: "nine"}},
	}
	h := sample()
	h.Add("c", 9, Version{Value: "nine"})
	got := h.After(3)
	if !slices.Equal(got, want) {
		t.Errorf("After(3) = %v, want %v", got, want)
	}
	h.Vacuum(9, math.MaxInt)
	h.Add("b", 10, Version{Value: "ten"})
	if !slices.Equal(got, want) {
		t.Errorf("what came out has changed: %v", got)
	}
	if got := told(h, 0); got != "a3 b7 b10 c9" {
		t.Errorf("After(0) behind a Vacuum = %q", got)
	}
}
