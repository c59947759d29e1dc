package palimpsest_test

import (
	"math"
	"slices"
	"strings"
	"testing"

	"palimpsest/api"
	"palimpsest/palimpsest"
)

// sixMoments is a store with ten versions: a 1, 2, 3 (gone), 5; b 1, 4; c 3, 5
// (gone); d 6 (gone); e 6.
func sixMoments(t *testing.T) *palimpsest.Store {
	t.Helper()
	s := palimpsest.New()
	commitOf(t, s, 1, "a", "a1", "b", "b1")
	commitOf(t, s, 2, "a", "a2")
	commitOf(t, s, 3, "a", gone, "c", "c3")
	commitOf(t, s, 4, "b", "b4")
	commitOf(t, s, 5, "a", "a5", "c", gone)
	commitOf(t, s, 6, "d", gone, "e", "")
	return s
}

// sixMomentsTell are keys and values in turns, for each moment of sixMoments.
var sixMomentsTell = [][]string{
	{},
	{"a", "a1", "b", "b1"},
	{"a", "a2", "b", "b1"},
	{"b", "b1", "c", "c3"},
	{"b", "b4", "c", "c3"},
	{"a", "a5", "b", "b4"},
	{"a", "a5", "b", "b4", "e", ""},
}

// wantSixMoments holds that a store tells what sixMoments told, from a moment on.
func wantSixMoments(t *testing.T, s *palimpsest.Store, from int) {
	t.Helper()
	wantOfSixMoments(t, s, from, 6)
}

func wantOfSixMoments(t *testing.T, s asked, from, upto int) {
	t.Helper()
	for moment := from; moment <= upto; moment++ {
		tell := pairsOf(sixMomentsTell[moment])
		wantRange(t, s, moment, "", everything, sixMomentsTell[moment]...)
		for _, key := range []string{"a", "b", "c", "d", "e", "f"} {
			i := slices.IndexFunc(tell, func(pair api.Pair) bool { return pair.Key == key })
			if i < 0 {
				wantAsOf(t, s, moment, key, "", api.ErrNone)
			} else {
				wantAsOf(t, s, moment, key, tell[i].Value, api.OK)
			}
		}
	}
}

func TestP8EachMomentStaysReadable(t *testing.T) {
	s := sixMoments(t)
	wantSixMoments(t, s, 0)
	commitOf(t, s, 7, "a", "a7", "b", gone, "c", "c7", "e", gone)
	wantSixMoments(t, s, 0)
	wantRange(t, s, 7, "", everything, "a", "a7", "c", "c7")
}

func TestP8ExampleOfTheDocument(t *testing.T) {
	s := palimpsest.New()
	wantAsOf(t, s, 0, "a", "", api.ErrNone)
	wantAsOf(t, s, 1, "a", "", api.ErrFuture)
	wantBegin(t, s, 1, api.OK)
	wantPut(t, s, 1, "a", "x", api.OK)
	wantBegin(t, s, 2, api.OK)
	wantCommit(t, s, 1, 1, api.OK)
	wantPut(t, s, 2, "a", "y", api.OK)
	wantCommit(t, s, 2, 0, api.ErrConflict)
	wantAsOf(t, s, 0, "a", "", api.ErrNone)
	wantAsOf(t, s, 1, "a", "x", api.OK)
	wantAsOf(t, s, 2, "a", "", api.ErrFuture)
}

func TestP8WhatIsNotCommittedIsNotTold(t *testing.T) {
	s := palimpsest.New()
	putOne(t, s, "a", "x", 1)
	tx := began(t, s)
	wantPut(t, s, tx, "a", "own", api.OK)
	wantPut(t, s, tx, "b", "own", api.OK)
	wantRange(t, s, 1, "", everything, "a", "x")
	wantAsOf(t, s, 1, "b", "", api.ErrNone)
	wantAsOf(t, s, 2, "b", "", api.ErrFuture)
	wantCommit(t, s, tx, 2, api.OK)
	wantRange(t, s, 1, "", everything, "a", "x")
	wantRange(t, s, 2, "", everything, "a", "own", "b", "own")
}

func TestP8AheadOfTheHorizonAndAboveNow(t *testing.T) {
	s := sixMoments(t)
	for horizon := 0; horizon <= 6; horizon++ {
		wantRetain(t, s, horizon, api.OK)
		for _, moment := range []int{horizon - 1, horizon - 2, -1, math.MinInt} {
			wantAsOf(t, s, moment, "b", "", api.ErrNotRetained)
			wantAsOf(t, s, moment, "f", "", api.ErrNotRetained)
			wantNoRange(t, s, moment, api.ErrNotRetained)
		}
		for _, moment := range []int{7, 8, math.MaxInt} {
			wantAsOf(t, s, moment, "b", "", api.ErrFuture)
			wantAsOf(t, s, moment, "f", "", api.ErrFuture)
			wantNoRange(t, s, moment, api.ErrFuture)
		}
		wantSixMoments(t, s, horizon)
	}
}

func TestP8WhatIsNoKeyIsToldFirst(t *testing.T) {
	s := sixMoments(t)
	wantRetain(t, s, 3, api.OK)
	for _, moment := range []int{math.MinInt, -1, 0, 2, 3, 6, 7, math.MaxInt} {
		for _, key := range append(slices.Clone(noKeys), strings.Repeat("a", 1<<20)) {
			wantAsOf(t, s, moment, key, "", api.ErrArg)
		}
	}
	wantHorizon(t, s, 3)
}

func TestP8RangeWithinBounds(t *testing.T) {
	s := palimpsest.New()
	commitOf(t, s, 1, "b", "1", "0", "2", "ab", "3", "z", "4", "a", "5", "9", "6", "abcdefgh", "7")
	commitOf(t, s, 2, "aa", "8", "b", gone)
	wantRange(t, s, 1, "", "\xff", "0", "2", "9", "6", "a", "5", "ab", "3", "abcdefgh", "7", "b", "1", "z", "4")
	wantRange(t, s, 2, "", "\xff", "0", "2", "9", "6", "a", "5", "aa", "8", "ab", "3", "abcdefgh", "7", "z", "4")
	wantRange(t, s, 2, "a", "ab", "a", "5", "aa", "8")
	wantRange(t, s, 1, "a", "ab", "a", "5")
	wantRange(t, s, 1, "a\x00", "b\x00", "ab", "3", "abcdefgh", "7", "b", "1")
	wantRange(t, s, 1, "abcdefgg is longer than a key", "abcdefgha", "abcdefgh", "7")
	wantRange(t, s, 1, "A", "a")
	wantRange(t, s, 1, "b", "b")
	wantRange(t, s, 1, "b", "a")
	wantRange(t, s, 1, "", "")
	wantRange(t, s, 1, strings.Repeat("z", 1<<20), strings.Repeat("~", 1<<20))
	wantRange(t, s, 0, "", "\xff")
}

func TestP2ARangeIsTheCallers(t *testing.T) {
	s := sixMoments(t)
	first, _ := s.Range(6, "", everything)
	second, _ := s.Range(6, "", everything)
	for i := range first[:cap(first)] {
		first[:cap(first)][i] = api.Pair{Key: "first", Value: "first"}
	}
	if !slices.Equal(second, pairsOf(sixMomentsTell[6])) {
		t.Errorf("two lists that came out share memory: %q", second)
	}
	for i := range second[:cap(second)] {
		second[:cap(second)][i] = api.Pair{Key: "second"}
	}
	for _, pair := range first[:cap(first)] {
		if pair.Key != "first" {
			t.Errorf("two lists that came out share their spare room: %q", pair)
		}
	}
	wantSixMoments(t, s, 0)
}
