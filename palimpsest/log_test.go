package palimpsest_test

import (
	"math"
	"slices"
	"strconv"
	"strings"
	"testing"

	"palimpsest/api"
	"palimpsest/palimpsest"
)

func TestP11ExampleOfTheDocument(t *testing.T) {
	s := palimpsest.New()
	wantBegin(t, s, 1, api.OK)
	wantPut(t, s, 1, "a", "x", api.OK)
	wantBegin(t, s, 2, api.OK)
	wantCommit(t, s, 1, 1, api.OK)
	wantPut(t, s, 2, "a", "y", api.OK)
	wantCommit(t, s, 2, 0, api.ErrConflict)
	head := "PL1\x00\x00\x00\x00"
	body := string([]byte{11, 0, 'C', 1, 0, 0, 0, 1, 1, 'a', 0, 1, 'x'})
	wantFiles(t, s, []string{head + sumOf(head) + body + sumOf(body)})
	wantCrash(t, s, 5, []string{head[:5]})
	wantRecovered(t, []string{head[:5]}, 0, nil)
}

func TestP11ARecordForEachThatChangesSomething(t *testing.T) {
	s := palimpsest.New()
	wantFiles(t, s, nil)
	commitOf(t, s, 1, "b", "", "a", "x", "c", gone, "0", strings.Repeat("\xff\x00", api.MaxValue/2))
	records := []string{commit(1, "0", strings.Repeat("\xff\x00", api.MaxValue/2), "a", "x", "b", "", "c", gone)}
	wantFiles(t, s, logOf(records...))
	commitOf(t, s, 2, "abcdefgh", "2", "a", "2", "ab", "2", "9", "2")
	records = append(records, commit(2, "9", "2", "a", "2", "ab", "2", "abcdefgh", "2"))
	wantFiles(t, s, logOf(records...))
	wantRetain(t, s, 1, api.OK)
	records = append(records, horizon(1))
	wantFiles(t, s, logOf(records...))
	wantRetain(t, s, 2, api.OK)
	records = append(records, horizon(2))
	wantFiles(t, s, logOf(records...))
	commitOf(t, s, 3, "a", gone)
	records = append(records, commit(3, "a", gone))
	wantFiles(t, s, logOf(records...))
}

func TestP11TheLastWriteOfAKeyIsTold(t *testing.T) {
	s := palimpsest.New()
	commitOf(t, s, 1, "a", "1", "b", gone, "a", "2", "c", "3", "b", "", "c", gone)
	wantFiles(t, s, logOf(commit(1, "a", "2", "b", "", "c", gone)))
}

func TestP11NoRecordOfWhatChangesNothing(t *testing.T) {
	s := palimpsest.New()
	wantRetain(t, s, 0, api.OK)
	wantCommit(t, s, began(t, s), 0, api.OK)
	aborted := began(t, s)
	wantPut(t, s, aborted, "a", "x", api.OK)
	wantAbort(t, s, aborted, api.OK)
	wantFiles(t, s, nil)
	loser, writer := began(t, s), began(t, s)
	wantPut(t, s, loser, "a", "x", api.OK)
	wantPut(t, s, writer, "b", "x", api.OK)
	putOne(t, s, "a", "y", 1)
	want := logOf(commit(1, "a", "y"))
	wantCommit(t, s, loser, 0, api.ErrConflict)
	wantRetain(t, s, 1, api.ErrPinned)
	wantRetain(t, s, 2, api.ErrArg)
	wantRetain(t, s, -1, api.ErrArg)
	wantCommit(t, s, 77, 0, api.ErrTx)
	wantVacuum(t, s, 9, 0, 1)
	s.Sync()
	s.Crash(3)
	wantFiles(t, s, want)
	wantAbort(t, s, writer, api.OK)
	wantRetain(t, s, 1, api.OK)
	want = logOf(commit(1, "a", "y"), horizon(1))
	wantFiles(t, s, want)
	wantRetain(t, s, 1, api.OK)
	wantRetain(t, s, 0, api.ErrArg)
	wantFiles(t, s, want)
}

func TestP11VacuumTakesNothingOutOfTheLog(t *testing.T) {
	s := sixMoments(t)
	wantRetain(t, s, 6, api.OK)
	want := textsOf(s.Files())
	wantVacuum(t, s, math.MaxInt, 7, 3)
	wantFiles(t, s, want)
}

func TestP11AFullFileAndTheNext(t *testing.T) {
	s := palimpsest.New()
	var records []string
	for moment := 1; moment <= 5*api.SegRecords+1; moment++ {
		value := strings.Repeat("v", moment%(api.MaxValue+1))
		putOne(t, s, "k"+strconv.Itoa(moment), value, moment)
		records = append(records, commit(moment, "k"+strconv.Itoa(moment), value))
		wantFiles(t, s, logOf(records...))
		if files := s.Files(); len(files) != (moment-1)/api.SegRecords+1 {
			t.Errorf("%d records in %d files", moment, len(files))
		}
	}
}

func TestP11ABodyOfMoreThan255Bytes(t *testing.T) {
	s := palimpsest.New()
	var writes []string
	for i := range api.MaxWrites {
		writes = append(writes, "longkey"+strconv.Itoa(i), strings.Repeat(strconv.Itoa(i), api.MaxValue))
	}
	commitOf(t, s, 1, writes...)
	want := logOf(commit(1, writes...))
	wantFiles(t, s, want)
	if length := want[0][11:13]; length != "\x3c\x01" {
		t.Errorf("the length is told as %q", length)
	}
	again := wantRecovered(t, want, 1, want)
	wantRange(t, again, 1, "", everything, writes...)
}

func TestP11ALogOfMaxMoments(t *testing.T) {
	s := fullOfMoments(t, "a")
	var records []string
	for moment := 1; moment <= api.MaxMoments; moment++ {
		records = append(records, commit(moment, "a", "v"))
	}
	full := began(t, s)
	wantPut(t, s, full, "b", "x", api.OK)
	wantCommit(t, s, full, 0, api.ErrFull)
	wantFiles(t, s, logOf(records...))
	wantRetain(t, s, api.MaxMoments, api.OK)
	wantFiles(t, s, logOf(append(records, horizon(api.MaxMoments))...))
}

func TestP12WhatIsSyncedIsLeft(t *testing.T) {
	s := palimpsest.New()
	keeps := func(synced int) {
		t.Helper()
		files := textsOf(s.Files())
		size := sizeOf(files)
		for keep := range size - synced + 3 {
			wantCrash(t, s, keep, firstBytes(files, synced+keep))
		}
		for _, none := range []int{-1, -2, -size - 1, math.MinInt} {
			wantCrash(t, s, none, firstBytes(files, synced))
		}
		for _, all := range []int{size, size + 1, math.MaxInt, math.MaxInt - 1} {
			wantCrash(t, s, all, files)
		}
		wantFiles(t, s, files)
	}
	keeps(0)
	s.Sync()
	keeps(0)
	synced := 0
	for moment := 1; moment <= 3*api.SegRecords; moment++ {
		commitOf(t, s, moment, "a", strconv.Itoa(moment), "b", gone)
		keeps(synced)
		if moment == 2 || moment == api.SegRecords || moment == api.SegRecords+1 {
			s.Sync()
			s.Sync()
			synced = sizeOf(textsOf(s.Files()))
			keeps(synced)
		}
	}
	wantRetain(t, s, 2, api.OK)
	keeps(synced)
}

func TestP12FilesOfWhichNothingIsLeftAreNotThere(t *testing.T) {
	s := sixMoments(t)
	files := textsOf(s.Files())
	wantCrash(t, s, 0, nil)
	wantCrash(t, s, len(files[0])-1, []string{files[0][:len(files[0])-1]})
	wantCrash(t, s, len(files[0]), files[:1])
	wantCrash(t, s, len(files[0])+1, []string{files[0], "P"})
}

func TestP12TheStoreIsAsBefore(t *testing.T) {
	s := sixMoments(t)
	tx := began(t, s)
	wantPut(t, s, tx, "b", "own", api.OK)
	files := textsOf(s.Files())
	for keep := range sizeOf(files) {
		s.Crash(keep)
	}
	wantSixMoments(t, s, 0)
	wantStored(t, s, 10)
	wantNow(t, s, 6)
	wantCrash(t, s, 0, nil) // nothing is synced by a crash
	wantScan(t, s, tx, "", everything, "a", "a5", "b", "own", "e", "")
	wantCommit(t, s, tx, 7, api.OK)
	wantFiles(t, s, []string{files[0], files[1] + commit(7, "b", "own")})
}

// scribble writes over a list that came out, its spare room, and its lists'.
func scribble(files [][]byte) {
	for i, file := range files {
		whole := file[:cap(file)]
		for k := range whole {
			whole[k] = 77
		}
		files[i] = append(file, 1, 2, 3)
	}
	whole := files[:cap(files)]
	for i := len(files); i < len(whole); i++ {
		whole[i] = []byte("spare")
	}
}

func TestP2WhatTheLogTellsIsTheCallers(t *testing.T) {
	s := sixMoments(t)
	want := textsOf(s.Files())
	first, second, left, rest := s.Files(), s.Files(), s.Crash(math.MaxInt), s.Crash(20)
	scribble(first)
	wantLog(t, "another list that came out", second, want)
	wantLog(t, "what a crash left", left, want)
	scribble(second)
	scribble(left)
	scribble(rest)
	wantFiles(t, s, want)
	s.Sync()
	scribble(s.Crash(0))
	wantCrash(t, s, 0, want)
	commitOf(t, s, 7, "a", "a7")
	wantFiles(t, s, []string{want[0], want[1] + commit(7, "a", "a7")})
}

func TestP2StoresHaveLogsOfTheirOwn(t *testing.T) {
	s, other := palimpsest.New(), palimpsest.New()
	putOne(t, s, "a", "x", 1)
	s.Sync()
	wantFiles(t, other, nil)
	wantCrash(t, other, 9, nil)
	putOne(t, other, "b", "y", 1)
	wantCrash(t, other, 0, nil)
	wantFiles(t, s, logOf(commit(1, "a", "x")))
	files := s.Files()
	one, _ := palimpsest.Recover(files)
	two, _ := palimpsest.Recover(files)
	putOne(t, one, "c", "1", 2)
	putOne(t, two, "d", "2", 2)
	wantFiles(t, one, logOf(commit(1, "a", "x"), commit(2, "c", "1")))
	wantFiles(t, two, logOf(commit(1, "a", "x"), commit(2, "d", "2")))
	wantLog(t, "what was handed in", files, logOf(commit(1, "a", "x")))
	if !slices.Equal(textsOf(s.Files()), textsOf(files)) {
		t.Errorf("a store changed by what another did")
	}
}
