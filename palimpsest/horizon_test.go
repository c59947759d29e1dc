package palimpsest_test

import (
	"math"
	"strconv"
	"testing"

	"palimpsest/api"
	"palimpsest/palimpsest"
)

func TestP9TheHorizonGoesForwardAlone(t *testing.T) {
	s := sixMoments(t)
	wantHorizon(t, s, 0)
	for _, step := range []struct {
		moment  int
		want    api.Errno
		horizon int
	}{
		{-1, api.ErrArg, 0}, {math.MinInt, api.ErrArg, 0}, {7, api.ErrArg, 0}, {math.MaxInt, api.ErrArg, 0},
		{0, api.OK, 0}, {3, api.OK, 3}, {2, api.ErrArg, 3}, {0, api.ErrArg, 3}, {-1, api.ErrArg, 3},
		{3, api.OK, 3}, {7, api.ErrArg, 3}, {4, api.OK, 4}, {3, api.ErrArg, 4},
		{6, api.OK, 6}, {5, api.ErrArg, 6}, {7, api.ErrArg, 6}, {6, api.OK, 6},
	} {
		wantRetain(t, s, step.moment, step.want)
		wantHorizon(t, s, step.horizon)
		wantSixMoments(t, s, step.horizon)
	}
	wantNow(t, s, 6)
	wantStored(t, s, 10) // Vacuum alone lets versions go
}

func TestP9OfAStoreWithoutCommits(t *testing.T) {
	s := palimpsest.New()
	wantRetain(t, s, 1, api.ErrArg)
	wantRetain(t, s, -1, api.ErrArg)
	wantRetain(t, s, 0, api.OK)
	began(t, s)
	wantRetain(t, s, 0, api.OK)
	wantRetain(t, s, 1, api.ErrArg)
	wantHorizon(t, s, 0)
}

func TestP9WhatATransactionSeesIsPinned(t *testing.T) {
	s := sixMoments(t)
	six := began(t, s)
	commitOf(t, s, 7, "a", "a7", "b", gone)
	seven := began(t, s)
	commitOf(t, s, 8, "a", "a8")
	wantRetain(t, s, 8, api.ErrPinned)
	wantRetain(t, s, 7, api.ErrPinned)
	wantHorizon(t, s, 0)
	wantRetain(t, s, 5, api.OK)
	wantRetain(t, s, 6, api.OK) // what is pinned is not ahead of itself
	wantRetain(t, s, 7, api.ErrPinned)
	wantHorizon(t, s, 6)
	wantScan(t, s, six, "", everything, sixMomentsTell[6]...)
	wantAbort(t, s, six, api.OK)
	wantRetain(t, s, 8, api.ErrPinned)
	wantRetain(t, s, 7, api.OK)
	wantCommit(t, s, seven, 7, api.OK)
	wantRetain(t, s, 8, api.OK)
	wantHorizon(t, s, 8)
}

func TestP9ErrArgComesAheadOfErrPinned(t *testing.T) {
	s := sixMoments(t)
	wantRetain(t, s, 3, api.OK)
	began(t, s)
	putOne(t, s, "a", "a7", 7)
	wantRetain(t, s, 8, api.ErrArg)
	wantRetain(t, s, math.MaxInt, api.ErrArg)
	wantRetain(t, s, 2, api.ErrArg)
	wantRetain(t, s, math.MinInt, api.ErrArg)
	wantRetain(t, s, 7, api.ErrPinned)
	wantHorizon(t, s, 3)
}

func TestP9WhichTransactionsPin(t *testing.T) {
	s := palimpsest.New()
	loser := began(t, s)
	putOne(t, s, "a", "x", 1)
	wantPut(t, s, loser, "a", "y", api.OK)
	wantRetain(t, s, 1, api.ErrPinned)
	wantCommit(t, s, loser, 0, api.ErrConflict)
	wantRetain(t, s, 1, api.OK) // it is over, though it was not committed
	writer := began(t, s)
	wantPut(t, s, writer, "b", "y", api.OK)
	putOne(t, s, "a", "z", 2)
	wantRetain(t, s, 2, api.ErrPinned)
	wantCommit(t, s, writer, 3, api.OK)
	wantRetain(t, s, 3, api.OK)
}

func TestP9WhoFindsNoMoreMomentsStillPins(t *testing.T) {
	s := palimpsest.New()
	for moment := 1; moment < api.MaxMoments; moment++ {
		putOne(t, s, "a", "v", moment)
	}
	full := began(t, s)
	wantPut(t, s, full, "b", "x", api.OK)
	putOne(t, s, "a", "v", api.MaxMoments)
	wantCommit(t, s, full, 0, api.ErrFull)
	wantRetain(t, s, api.MaxMoments, api.ErrPinned)
	wantRetain(t, s, api.MaxMoments-1, api.OK)
	wantAbort(t, s, full, api.OK)
	wantRetain(t, s, api.MaxMoments+1, api.ErrArg)
	wantRetain(t, s, api.MaxMoments, api.OK)
	wantVacuum(t, s, math.MaxInt, api.MaxMoments-1, 1)
	wantAsOf(t, s, api.MaxMoments, "a", "v", api.OK)
}

func TestP10WhichVersionsMayGo(t *testing.T) {
	s := sixMoments(t)
	wantVacuum(t, s, math.MaxInt, 0, 10) // nothing is up to the horizon 0
	for _, c := range []struct{ horizon, gone, left int }{
		{1, 0, 10},
		{2, 1, 9}, // a 1
		{3, 2, 7}, // a 2; then the deletion of a at 3 is its first version
		{4, 1, 6}, // b 1
		{5, 2, 4}, // c 3; then its deletion at 5
		{6, 1, 3}, // the deletion of d, which never was there
	} {
		wantRetain(t, s, c.horizon, api.OK)
		wantVacuum(t, s, math.MaxInt, c.gone, c.left)
		wantVacuum(t, s, math.MaxInt, 0, c.left)
		wantSixMoments(t, s, c.horizon)
	}
}

func TestP10AllAtOnceIsAsOneByOne(t *testing.T) {
	for horizon := 0; horizon <= 6; horizon++ {
		at, one := sixMoments(t), sixMoments(t)
		wantRetain(t, at, horizon, api.OK)
		wantRetain(t, one, horizon, api.OK)
		gone := at.Vacuum(1 << 40)
		for left := 9; left >= 10-gone; left-- {
			wantVacuum(t, one, 1, 1, left)
			wantSixMoments(t, one, horizon)
		}
		wantVacuum(t, one, 1, 0, 10-gone)
		wantStored(t, at, 10-gone)
		wantSixMoments(t, at, horizon)
	}
}

func TestP10AtMostSoMany(t *testing.T) {
	s := sixMoments(t)
	wantRetain(t, s, 6, api.OK)
	for _, none := range []int{0, -1, math.MinInt} {
		wantVacuum(t, s, none, 0, 10)
	}
	wantVacuum(t, s, 2, 2, 8)
	wantVacuum(t, s, 3, 3, 5)
	wantVacuum(t, s, 3, 2, 3)
	wantVacuum(t, s, 3, 0, 3)
	wantSixMoments(t, s, 6)
}

// Which of several went first, no call of a store's tells here: see the tests of
// package history.
func TestP10WhatIsLeftForTheNextCallGoesThen(t *testing.T) {
	s := palimpsest.New()
	commitOf(t, s, 1, "b", "b1", "a", "a1", "9", "91")
	commitOf(t, s, 2, "b", "b2", "a", gone, "9", "92")
	commitOf(t, s, 3, "b", gone, "a", "a3")
	wantRetain(t, s, 2, api.OK)
	for left := 7; left >= 5; left-- {
		wantVacuum(t, s, 1, 1, left)
		wantRange(t, s, 2, "", everything, "9", "92", "b", "b2")
		wantRange(t, s, 3, "", everything, "9", "92", "a", "a3")
	}
	wantRetain(t, s, 3, api.OK)
	wantVacuum(t, s, 2, 2, 3)
	wantVacuum(t, s, 2, 1, 2)
	wantVacuum(t, s, 2, 0, 2)
	wantRange(t, s, 3, "", everything, "9", "92", "a", "a3")
}

func TestP10ADeletionBehindAnotherVersionStays(t *testing.T) {
	s := palimpsest.New()
	commitOf(t, s, 1, "a", "x")
	commitOf(t, s, 2, "a", gone)
	commitOf(t, s, 3, "a", gone)
	commitOf(t, s, 4, "b", "y")
	wantRetain(t, s, 1, api.OK)
	wantVacuum(t, s, math.MaxInt, 0, 4)
	wantAsOf(t, s, 1, "a", "x", api.OK)
	wantAsOf(t, s, 2, "a", "", api.ErrNone)
	wantRetain(t, s, 2, api.OK)
	wantVacuum(t, s, 1, 1, 3)
	wantAsOf(t, s, 2, "a", "", api.ErrNone)
	wantVacuum(t, s, 9, 1, 2)
	wantAsOf(t, s, 2, "a", "", api.ErrNone)
	wantVacuum(t, s, 9, 0, 2) // the deletion at 3 is the first, but above the horizon
	wantRetain(t, s, 3, api.OK)
	wantVacuum(t, s, 9, 1, 1)
	wantRange(t, s, 4, "", everything, "b", "y")
}

func TestP10AKeyComesAgain(t *testing.T) {
	s := palimpsest.New()
	commitOf(t, s, 1, "a", "1")
	commitOf(t, s, 2, "a", gone)
	wantRetain(t, s, 2, api.OK)
	wantVacuum(t, s, 9, 2, 0)
	wantRange(t, s, 2, "", everything)
	loser := began(t, s)
	commitOf(t, s, 3, "a", "3")
	wantStored(t, s, 1)
	wantPut(t, s, loser, "a", "4", api.OK)
	wantCommit(t, s, loser, 0, api.ErrConflict)
	wantAsOf(t, s, 2, "a", "", api.ErrNone)
	wantAsOf(t, s, 3, "a", "3", api.OK)
	commitOf(t, s, 4, "a", gone)
	commitOf(t, s, 5, "a", "5")
	wantRetain(t, s, 5, api.OK)
	wantVacuum(t, s, 9, 2, 1)
	wantAsOf(t, s, 5, "a", "5", api.OK)
}

func TestP10VacuumIsNoneOfATransactionsBusiness(t *testing.T) {
	s := sixMoments(t)
	reader, writer, loser := began(t, s), began(t, s), began(t, s)
	commitOf(t, s, 7, "a", gone, "b", "b7", "e", "e7")
	wantRetain(t, s, 6, api.OK)
	wantPut(t, s, writer, "c", "own", api.OK)
	wantPut(t, s, loser, "a", "own", api.OK)
	wantVacuum(t, s, math.MaxInt, 7, 6)
	wantScan(t, s, reader, "", everything, sixMomentsTell[6]...)
	wantScan(t, s, writer, "", everything, "a", "a5", "b", "b4", "c", "own", "e", "")
	wantCommit(t, s, loser, 0, api.ErrConflict)
	wantCommit(t, s, writer, 8, api.OK) // the version of c that went is not later than what it sees
	wantRange(t, s, 8, "", everything, "b", "b7", "c", "own", "e", "e7")
	wantScan(t, s, reader, "", everything, sixMomentsTell[6]...)
}

func TestP10StoredCountsVersions(t *testing.T) {
	s := palimpsest.New()
	wantStored(t, s, 0)
	wantVacuum(t, s, 9, 0, 0)
	tx := began(t, s)
	wantPut(t, s, tx, "a", "x", api.OK)
	wantPut(t, s, tx, "a", "y", api.OK)
	wantDelete(t, s, tx, "b", api.OK)
	wantStored(t, s, 0) // what is not committed is no version
	wantCommit(t, s, tx, 1, api.OK)
	wantStored(t, s, 2) // one for each key; a deletion is one too
	commitOf(t, s, 2, "a", "y", "c", "")
	wantStored(t, s, 4) // the same value again is a new version
	aborted := began(t, s)
	wantPut(t, s, aborted, "a", "z", api.OK)
	wantAbort(t, s, aborted, api.OK)
	wantStored(t, s, 4)
}

func TestP10OfManyKeys(t *testing.T) {
	s := palimpsest.New()
	for moment := 1; moment <= 300; moment++ {
		putOne(t, s, "k"+strconv.Itoa(moment%100), strconv.Itoa(moment), moment)
	}
	wantRetain(t, s, 250, api.OK)
	wantVacuum(t, s, 60, 60, 240)
	wantVacuum(t, s, math.MaxInt, 90, 150)
	for moment := 250; moment <= 300; moment++ {
		for k := range 100 {
			want := moment - (moment-k)%100
			wantAsOf(t, s, moment, "k"+strconv.Itoa(k), strconv.Itoa(want), api.OK)
		}
	}
}
