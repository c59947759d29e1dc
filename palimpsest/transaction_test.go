package palimpsest_test

import (
	"math"
	"slices"
	"strconv"
	"strings"
	"testing"
	"unsafe"

	"palimpsest/api"
	"palimpsest/palimpsest"
)

func TestP1EveryCallEndsAtAllNumbersAndTexts(t *testing.T) {
	s := palimpsest.New()
	tx := began(t, s)
	wantPut(t, s, tx, "a", "x", api.OK)
	texts := append(slices.Clone(noKeys), strings.Repeat("a", 1<<20), strings.Repeat("\xff", 1<<20))
	for _, number := range append(slices.Clone(noTransactions), 2) {
		for _, text := range texts {
			wantGet(t, s, number, text, "", api.ErrTx)
			wantPut(t, s, number, text, text, api.ErrTx)
			wantDelete(t, s, number, text, api.ErrTx)
			if pairs, e := s.Scan(number, text, text); len(pairs) != 0 || e != api.ErrTx {
				t.Errorf("Scan(%d) = %q, %d, want ErrTx", number, pairs, e)
			}
		}
		wantCommit(t, s, number, 0, api.ErrTx)
		wantAbort(t, s, number, api.ErrTx)
	}
	for _, text := range texts {
		wantGet(t, s, tx, text, "", api.ErrArg)
		wantPut(t, s, tx, text, "", api.ErrArg)
		wantDelete(t, s, tx, text, api.ErrArg)
		wantScan(t, s, tx, text, text)
	}
	wantScan(t, s, tx, "", everything, "a", "x")
	wantNow(t, s, 0)
}

func TestP1TheFirstNamedErrorIsTold(t *testing.T) {
	s := palimpsest.New()
	tx := began(t, s)
	for i := range api.MaxWrites {
		wantPut(t, s, tx, "k"+strconv.Itoa(i), "", api.OK)
	}
	long := strings.Repeat("v", api.MaxValue+1)
	wantOver(t, s, tx+1)
	wantPut(t, s, tx, "K", "", api.ErrArg)
	wantPut(t, s, tx, "other", long, api.ErrArg)
	wantPut(t, s, tx, "k0", long, api.ErrArg)
	wantDelete(t, s, tx, "K", api.ErrArg)
	wantPut(t, s, tx, "other", "", api.ErrFull)
	wantDelete(t, s, tx, "other", api.ErrFull)
}

func TestP1AnErrorChangesNothing(t *testing.T) {
	s := palimpsest.New()
	putOne(t, s, "a", "old", 1)
	tx := began(t, s)
	wantPut(t, s, tx, "a", "new", api.OK)
	wantPut(t, s, tx, "a", strings.Repeat("v", api.MaxValue+1), api.ErrArg)
	wantPut(t, s, tx, "B", "v", api.ErrArg)
	wantDelete(t, s, tx, "", api.ErrArg)
	wantGet(t, s, tx, "", "", api.ErrArg)
	wantScan(t, s, tx, "", everything, "a", "new")
	wantOver(t, s, tx-1)
	wantNow(t, s, 1)
	wantCommit(t, s, tx, 2, api.OK)
}

func TestP2AListThatCameOutIsTheCallers(t *testing.T) {
	s := palimpsest.New()
	for i, key := range []string{"a", "b", "c"} {
		putOne(t, s, key, "old", i+1)
	}
	tx := began(t, s)
	wantPut(t, s, tx, "d", "own", api.OK)
	first, _ := s.Scan(tx, "", everything)
	second, _ := s.Scan(tx, "", everything)
	for i := range first[:cap(first)] {
		first[:cap(first)][i] = api.Pair{Key: "first", Value: "first"}
	}
	want := []api.Pair{{Key: "a", Value: "old"}, {Key: "b", Value: "old"}, {Key: "c", Value: "old"}, {Key: "d", Value: "own"}}
	if !slices.Equal(second, want) {
		t.Errorf("two lists that came out share memory: %q", second)
	}
	spare := second[len(second):cap(second)]
	for i := range spare {
		spare[i] = api.Pair{Key: "second"}
	}
	for _, pair := range first[:cap(first)] {
		if pair.Key != "first" {
			t.Errorf("two lists that came out share their spare room: %q", pair)
		}
	}
	wantScan(t, s, tx, "", everything, "a", "old", "b", "old", "c", "old", "d", "own")
}

func TestP2NothingHandedInIsKeptAsItIs(t *testing.T) {
	s := palimpsest.New()
	tx := began(t, s)
	key, value := strings.Clone("key"), strings.Clone("value")
	wantPut(t, s, tx, key, value, api.OK)
	pairs, e := s.Scan(tx, "", everything)
	if len(pairs) != 1 || e != api.OK {
		t.Fatalf("Scan = %q, %d", pairs, e)
	}
	if unsafe.StringData(pairs[0].Key) == unsafe.StringData(key) {
		t.Errorf("the key that was handed in is kept")
	}
	if unsafe.StringData(pairs[0].Value) == unsafe.StringData(value) {
		t.Errorf("the value that was handed in is kept")
	}
}

func TestP2StoresKnowNothingOfEachOther(t *testing.T) {
	s, other := palimpsest.New(), palimpsest.New()
	for range api.MaxOpen {
		began(t, s)
	}
	wantPut(t, s, 1, "a", "x", api.OK)
	wantCommit(t, s, 1, 1, api.OK)
	wantOver(t, other, 2)
	wantNow(t, other, 0)
	wantBegin(t, other, 1, api.OK)
	wantScan(t, other, 1, "", everything)
	wantPut(t, other, 1, "a", "y", api.OK)
	wantCommit(t, other, 1, 1, api.OK)
	wantNow(t, s, 1)
	wantGet(t, s, began(t, s), "a", "x", api.OK)
}

func TestP3ANewStoreHasNothing(t *testing.T) {
	s := palimpsest.New()
	wantNow(t, s, 0)
	for _, number := range append(slices.Clone(noTransactions), 1, 2) {
		wantOver(t, s, number)
	}
	if files := s.Files(); len(files) != 0 {
		t.Errorf("Files() = %q, want none", files)
	}
	for _, number := range []int{-1, 0, 1, 2} {
		wantNoBackup(t, s, number)
	}
	wantBackup(t, s, 0, 1, api.OK)
	wantBegin(t, s, 1, api.OK)
	wantScan(t, s, 1, "", "\xff\xff")
	wantGet(t, s, 1, "a", "", api.ErrNone)
	wantCommit(t, s, 1, 0, api.OK)
}

func TestP4NumbersFollowEachOther(t *testing.T) {
	s := palimpsest.New()
	for tx := 1; tx <= api.MaxOpen; tx++ {
		wantBegin(t, s, tx, api.OK)
	}
	wantBegin(t, s, 0, api.ErrFull)
	wantBegin(t, s, 0, api.ErrFull)
	wantAbort(t, s, 3, api.OK)
	wantBegin(t, s, api.MaxOpen+1, api.OK)
	wantBegin(t, s, 0, api.ErrFull)
	wantCommit(t, s, api.MaxOpen, 0, api.OK)
	wantBegin(t, s, api.MaxOpen+2, api.OK)
	wantOver(t, s, 3)
	wantOver(t, s, api.MaxOpen)
}

func TestP4EveryEndMakesRoom(t *testing.T) {
	s := palimpsest.New()
	for tx := 1; tx <= api.MaxOpen; tx++ {
		wantBegin(t, s, tx, api.OK)
		wantPut(t, s, tx, "a", strconv.Itoa(tx), api.OK)
	}
	wantBegin(t, s, 0, api.ErrFull)
	wantCommit(t, s, 1, 1, api.OK)
	wantBegin(t, s, 9, api.OK)
	wantBegin(t, s, 0, api.ErrFull)
	wantCommit(t, s, 2, 0, api.ErrConflict)
	wantBegin(t, s, 10, api.OK)
	wantBegin(t, s, 0, api.ErrFull)
}

func TestP4ATransactionSeesTheMomentOfItsBegin(t *testing.T) {
	s := palimpsest.New()
	var seen []int
	for moment := 1; moment <= 6; moment++ {
		seen = append(seen, began(t, s))
		putOne(t, s, "a", strconv.Itoa(moment), moment)
	}
	wantGet(t, s, seen[0], "a", "", api.ErrNone)
	for moment := 1; moment < 6; moment++ {
		wantGet(t, s, seen[moment], "a", strconv.Itoa(moment), api.OK)
		wantScan(t, s, seen[moment], "", everything, "a", strconv.Itoa(moment))
	}
	for moment, tx := range seen {
		wantCommit(t, s, tx, moment, api.OK)
	}
	wantNow(t, s, 6)
}

func TestP5OwnWritesComeFirst(t *testing.T) {
	s := palimpsest.New()
	putOne(t, s, "a", "old", 1)
	putOne(t, s, "b", "", 2)
	tx := began(t, s)
	wantGet(t, s, tx, "a", "old", api.OK)
	wantGet(t, s, tx, "b", "", api.OK)
	wantGet(t, s, tx, "c", "", api.ErrNone)
	wantPut(t, s, tx, "a", "new", api.OK)
	wantGet(t, s, tx, "a", "new", api.OK)
	wantPut(t, s, tx, "a", "newer", api.OK)
	wantGet(t, s, tx, "a", "newer", api.OK)
	wantDelete(t, s, tx, "a", api.OK)
	wantGet(t, s, tx, "a", "", api.ErrNone)
	wantPut(t, s, tx, "a", "", api.OK)
	wantGet(t, s, tx, "a", "", api.OK)
	wantDelete(t, s, tx, "b", api.OK)
	wantPut(t, s, tx, "c", "own", api.OK)
	wantScan(t, s, tx, "", everything, "a", "", "c", "own")
	other := began(t, s)
	wantScan(t, s, other, "", everything, "a", "old", "b", "")
}

func TestP5DeletedKeysAreNotThere(t *testing.T) {
	s := palimpsest.New()
	putOne(t, s, "a", "x", 1)
	before := began(t, s)
	deleting := began(t, s)
	wantDelete(t, s, deleting, "a", api.OK)
	wantCommit(t, s, deleting, 2, api.OK)
	between := began(t, s)
	putOne(t, s, "a", "y", 3)
	after := began(t, s)
	wantGet(t, s, before, "a", "x", api.OK)
	wantGet(t, s, between, "a", "", api.ErrNone)
	wantScan(t, s, between, "", everything)
	wantGet(t, s, after, "a", "y", api.OK)
}

func TestP5GetOfNoKey(t *testing.T) {
	s := palimpsest.New()
	tx := began(t, s)
	for _, key := range noKeys {
		wantGet(t, s, tx, key, "", api.ErrArg)
	}
}

func TestP5ScanWithinBounds(t *testing.T) {
	s := palimpsest.New()
	writer := began(t, s)
	for _, key := range []string{"b", "0", "ab", "z", "a", "9", "abcdefgh"} {
		wantPut(t, s, writer, key, "v"+key[:1], api.OK)
	}
	wantCommit(t, s, writer, 1, api.OK)
	tx := began(t, s)
	wantPut(t, s, tx, "aa", "own", api.OK)
	wantScan(t, s, tx, "", "\xff", "0", "v0", "9", "v9", "a", "va", "aa", "own", "ab", "va", "abcdefgh", "va", "b", "vb", "z", "vz")
	wantScan(t, s, tx, "a", "b", "a", "va", "aa", "own", "ab", "va", "abcdefgh", "va")
	wantScan(t, s, tx, "aa", "ab", "aa", "own")
	wantScan(t, s, tx, "aa\x00", "ab\x00", "ab", "va")
	wantScan(t, s, tx, "A", "a")
	wantScan(t, s, tx, "9", "A", "9", "v9")
	wantScan(t, s, tx, "b", "b")
	wantScan(t, s, tx, "b", "a")
	wantScan(t, s, tx, "", "")
	wantScan(t, s, tx, "zz", strings.Repeat("~", 100))
	wantScan(t, s, tx, "abcdefgg is longer than a key", "abcdefgha", "abcdefgh", "va")
}

func TestP6KeysAndValuesThatMayBe(t *testing.T) {
	s := palimpsest.New()
	tx := began(t, s)
	for _, key := range noKeys {
		wantPut(t, s, tx, key, "", api.ErrArg)
		wantDelete(t, s, tx, key, api.ErrArg)
	}
	wantPut(t, s, tx, strings.Repeat("k", api.MaxKey+1), "", api.ErrArg)
	wantDelete(t, s, tx, strings.Repeat("k", api.MaxKey+1), api.ErrArg)
	wantPut(t, s, tx, "a", strings.Repeat("v", api.MaxValue+1), api.ErrArg)
	wantPut(t, s, tx, "a", strings.Repeat("é", api.MaxValue/2+1), api.ErrArg)
	wantScan(t, s, tx, "", everything)
	longest, bytes := strings.Repeat("k", api.MaxKey), strings.Repeat("\x00\xff", api.MaxValue/2)
	wantPut(t, s, tx, longest, bytes, api.OK)
	wantPut(t, s, tx, "0", "", api.OK)
	wantScan(t, s, tx, "", everything, "0", "", longest, bytes)
}

func TestP6MaxWritesCountsKeysNotCalls(t *testing.T) {
	s := palimpsest.New()
	putOne(t, s, "there", "x", 1)
	tx := began(t, s)
	for i := range api.MaxWrites {
		key := "k" + strconv.Itoa(i)
		wantDelete(t, s, tx, key, api.OK)
		wantPut(t, s, tx, key, "1", api.OK)
		wantPut(t, s, tx, key, "2", api.OK)
	}
	wantPut(t, s, tx, "other", "", api.ErrFull)
	wantDelete(t, s, tx, "other", api.ErrFull)
	wantDelete(t, s, tx, "there", api.ErrFull)
	wantGet(t, s, tx, "there", "x", api.OK)
	wantGet(t, s, tx, "other", "", api.ErrNone)
	wantPut(t, s, tx, "k0", "again", api.OK)
	wantDelete(t, s, tx, "k1", api.OK)
	wantDelete(t, s, tx, "other", api.ErrFull) // k1 is still a key that it has written
	wantGet(t, s, tx, "k0", "again", api.OK)
	wantCommit(t, s, tx, 2, api.OK)
	wantPut(t, s, began(t, s), "other", "", api.OK)
}

func TestP7ExampleOfTheDocument(t *testing.T) {
	s := palimpsest.New()
	wantBegin(t, s, 1, api.OK)
	wantPut(t, s, 1, "a", "x", api.OK)
	wantBegin(t, s, 2, api.OK)
	wantCommit(t, s, 1, 1, api.OK)
	wantGet(t, s, 2, "a", "", api.ErrNone)
	wantPut(t, s, 2, "a", "y", api.OK)
	wantCommit(t, s, 2, 0, api.ErrConflict)
	wantOver(t, s, 2)
	wantNow(t, s, 1)
	wantGet(t, s, began(t, s), "a", "x", api.OK)
}

func TestP7CommitTellsTheMoment(t *testing.T) {
	s := palimpsest.New()
	reader := began(t, s)
	putOne(t, s, "a", "1", 1)
	putOne(t, s, "b", "2", 2)
	wantNow(t, s, 2)
	wantCommit(t, s, reader, 0, api.OK) // it wrote nothing: the moment that it sees
	wantOver(t, s, reader)
	wantNow(t, s, 2)
	tx := began(t, s)
	wantDelete(t, s, tx, "c", api.OK) // a deletion of what is not there is written too
	wantCommit(t, s, tx, 3, api.OK)
	wantOver(t, s, tx)
	wantNow(t, s, 3)
}

func TestP7WhatIsNotCommittedIsNotSeen(t *testing.T) {
	s := palimpsest.New()
	tx := began(t, s)
	wantPut(t, s, tx, "a", "x", api.OK)
	other := began(t, s)
	wantScan(t, s, other, "", everything)
	wantAbort(t, s, tx, api.OK)
	wantOver(t, s, tx)
	wantNow(t, s, 0)
	wantScan(t, s, began(t, s), "", everything)
	wantPut(t, s, other, "a", "y", api.OK)
	wantCommit(t, s, other, 1, api.OK) // what was aborted stands in nobody's way
}

func TestP7OfAConflictNothingIsThere(t *testing.T) {
	s := palimpsest.New()
	putOne(t, s, "m", "old", 1)
	loser := began(t, s)
	for _, key := range []string{"a", "m", "z"} {
		wantPut(t, s, loser, key, "loser", api.OK)
	}
	putOne(t, s, "m", "winner", 2)
	wantCommit(t, s, loser, 0, api.ErrConflict)
	wantOver(t, s, loser)
	wantNow(t, s, 2)
	wantScan(t, s, began(t, s), "", everything, "m", "winner")
}

func TestP7WhichWritesAreInConflict(t *testing.T) {
	s := palimpsest.New()
	readOnly, other, deletes, deleted := began(t, s), began(t, s), began(t, s), began(t, s)
	putOne(t, s, "a", "x", 1)
	wantGet(t, s, readOnly, "a", "", api.ErrNone)
	wantPut(t, s, readOnly, "b", "x", api.OK)
	wantCommit(t, s, readOnly, 2, api.OK) // who has read a key only is not in conflict about it
	wantPut(t, s, other, "c", "x", api.OK)
	wantCommit(t, s, other, 3, api.OK)
	wantDelete(t, s, deletes, "a", api.OK)
	wantCommit(t, s, deletes, 0, api.ErrConflict)
	gone := began(t, s)
	wantDelete(t, s, gone, "d", api.OK)
	wantCommit(t, s, gone, 4, api.OK)
	wantPut(t, s, deleted, "d", "x", api.OK)
	wantCommit(t, s, deleted, 0, api.ErrConflict) // a deletion is a version as well
	later := began(t, s)
	wantPut(t, s, later, "a", "y", api.OK)
	wantCommit(t, s, later, 5, api.OK) // a version of the moment that it sees is not later
}

func TestP7AfterMaxMoments(t *testing.T) {
	s := fullOfMoments(t, "a")
	wantNow(t, s, api.MaxMoments)
	reader := began(t, s)
	wantCommit(t, s, reader, api.MaxMoments, api.OK)
	writer := began(t, s)
	wantPut(t, s, writer, "b", "x", api.OK)
	wantCommit(t, s, writer, 0, api.ErrFull)
	wantCommit(t, s, writer, 0, api.ErrFull)
	wantGet(t, s, writer, "b", "x", api.OK)
	wantPut(t, s, writer, "c", "y", api.OK)
	wantScan(t, s, writer, "", everything, "a", "v", "b", "x", "c", "y")
	wantNow(t, s, api.MaxMoments)
	wantScan(t, s, began(t, s), "", everything, "a", "v")
	wantAbort(t, s, writer, api.OK)
	wantOver(t, s, writer)
}

func TestP7AConflictComesAheadOfMaxMoments(t *testing.T) {
	s := palimpsest.New()
	for moment := 1; moment < api.MaxMoments; moment++ {
		putOne(t, s, "a", "v", moment)
	}
	loser, full, empty := began(t, s), began(t, s), began(t, s)
	putOne(t, s, "a", "last", api.MaxMoments)
	wantPut(t, s, loser, "a", "x", api.OK)
	wantCommit(t, s, loser, 0, api.ErrConflict)
	wantOver(t, s, loser)
	wantPut(t, s, full, "b", "x", api.OK)
	wantCommit(t, s, full, 0, api.ErrFull)
	wantPut(t, s, full, "a", "x", api.OK)
	wantCommit(t, s, full, 0, api.ErrConflict)
	wantOver(t, s, full)
	wantCommit(t, s, empty, api.MaxMoments-1, api.OK)
}

func TestP7AbortOfWhatIsNotThere(t *testing.T) {
	s := palimpsest.New()
	tx := began(t, s)
	for _, number := range []int{0, -tx, tx + 1, math.MaxInt, math.MinInt} {
		wantAbort(t, s, number, api.ErrTx)
		wantCommit(t, s, number, 0, api.ErrTx)
	}
	wantAbort(t, s, tx, api.OK)
	wantAbort(t, s, tx, api.ErrTx)
}
