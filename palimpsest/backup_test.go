package palimpsest_test

import (
	"math"
	"runtime"
	"slices"
	"strconv"
	"strings"
	"testing"
	"time"

	"palimpsest/api"
	"palimpsest/palimpsest"
)

func TestP14ExampleOfTheDocument(t *testing.T) {
	s := palimpsest.New()
	putOne(t, s, "a", "x", 1)
	wantBackup(t, s, 0, 1, api.OK)
	whole := sealed("PB1\x00\x00\x00\x00\x01\x00\x00\x00\x00\x00\x00\x00\x01\x00\x00\x00\x01a\x01\x00\x00\x00\x00\x01x")
	wantStep(t, s, 1, 9, whole, true)
	c := wantRestored(t, []string{whole}, nil, 1)
	wantAsOf(t, c, 1, "a", "x", api.OK)
	wantAsOf(t, c, 2, "a", "", api.ErrFuture)
}

func TestP14WhichMomentsMayBe(t *testing.T) {
	s := sixMoments(t)
	wantRetain(t, s, 3, api.OK)
	for _, since := range []int{-1, -3, 1, 2, 7, 8, math.MaxInt, math.MinInt} {
		wantBackup(t, s, since, 0, api.ErrArg)
	}
	for i, since := range []int{0, 3, 4, 5, 6} {
		wantBackup(t, s, since, i+1, api.OK)
		wantStep(t, s, i+1, 99, sixDump(since, 6, 3), true)
	}
}

func TestP14OfAStoreWithoutCommits(t *testing.T) {
	s := palimpsest.New()
	wantBackup(t, s, 1, 0, api.ErrArg)
	wantBackup(t, s, -1, 0, api.ErrArg)
	wantBackup(t, s, 0, 1, api.OK)
	putOne(t, s, "a", "x", 1)
	wantBackup(t, s, 1, 2, api.OK)
	wantBackup(t, s, 0, 3, api.OK)
	wantStep(t, s, 1, 5, dumpOf(0, 0, 0), true)
	wantStep(t, s, 2, 5, dumpOf(1, 1, 0), true)
	wantStep(t, s, 3, 5, dumpOf(0, 1, 0, entry("a", 1, "x")), true)
}

func TestP14MaxBackups(t *testing.T) {
	s := sixMoments(t)
	for number := 1; number <= api.MaxBackups; number++ {
		wantBackup(t, s, 0, number, api.OK)
	}
	wantBackup(t, s, 0, 0, api.ErrFull)
	wantBackup(t, s, 6, 0, api.ErrFull)
	wantBackup(t, s, 7, 0, api.ErrArg) // which comes ahead of ErrFull
	wantBackup(t, s, -1, 0, api.ErrArg)
	wantStep(t, s, 2, 9, head(0, 6, 0, 10)+strings.Join(sixEntries()[:9], ""), false)
	wantBackup(t, s, 0, 0, api.ErrFull) // it isn't done
	wantStep(t, s, 2, 1, sixEntries()[9]+sumOf(head(0, 6, 0, 10)+strings.Join(sixEntries(), "")), true)
	wantBackup(t, s, 6, api.MaxBackups+1, api.OK)
	wantBackup(t, s, 0, 0, api.ErrFull)
	wantStep(t, s, api.MaxBackups+1, 0, dumpOf(6, 6, 0), true)
	for number := api.MaxBackups + 2; number < 40; number++ { // no number comes again
		wantBackup(t, s, 0, number, api.OK)
		wantStep(t, s, number, 10, sixDump(0, 6, 0), true)
		wantNoBackup(t, s, number)
	}
	wantStep(t, s, 1, 10, sixDump(0, 6, 0), true)
	wantStep(t, s, 3, 10, sixDump(0, 6, 0), true)
}

func TestP14WhatIsCommittedLaterIsNotTold(t *testing.T) {
	s := sixMoments(t)
	open := began(t, s)
	wantPut(t, s, open, "a", "own", api.OK)
	wantBackup(t, s, 0, 1, api.OK)
	wantBackup(t, s, 4, 2, api.OK)
	wantStep(t, s, 1, 3, head(0, 6, 0, 10)+strings.Join(sixEntries()[:3], ""), false)
	wantCommit(t, s, open, 7, api.OK)
	commitOf(t, s, 8, "a", "a8", "b", gone, "0", "08", "z", "z8")
	rest := strings.Join(sixEntries()[3:], "")
	wantStep(t, s, 1, 99, rest+sumOf(head(0, 6, 0, 10)+strings.Join(sixEntries(), "")), true)
	wantStep(t, s, 2, 99, sixDump(4, 6, 0), true)
	wantBackup(t, s, 6, 3, api.OK)
	wantStep(t, s, 3, 99, dumpOf(6, 8, 0, entry("0", 8, "08"), entry("a", 7, "own"), entry("a", 8, "a8"), entry("b", 8, gone), entry("z", 8, "z8")), true)
}

func TestP14TheFloorIsTheHorizonOfTheBeginning(t *testing.T) {
	s := sixMoments(t)
	wantRetain(t, s, 2, api.OK)
	wantBackup(t, s, 5, 1, api.OK)
	wantRetain(t, s, 4, api.OK)
	wantStep(t, s, 1, 99, sixDump(5, 6, 2), true)
	wantBackup(t, s, 5, 2, api.OK)
	wantStep(t, s, 2, 99, sixDump(5, 6, 4), true)
}

func TestP14WhatABackupNeedsIsPinned(t *testing.T) {
	for horizon := 0; horizon <= 6; horizon++ {
		for since := 0; since <= 6; since++ {
			if since > 0 && since < horizon {
				continue
			}
			s := sixMoments(t)
			wantRetain(t, s, horizon, api.OK)
			wantBackup(t, s, since, 1, api.OK)
			needs := since
			if since == 0 {
				needs = horizon
			}
			for moment := horizon; moment <= needs; moment++ {
				wantRetain(t, s, moment, api.OK)
			}
			for moment := needs + 1; moment <= 6; moment++ {
				wantRetain(t, s, moment, api.ErrPinned)
				wantHorizon(t, s, needs)
			}
			whole := sixDump(since, 6, horizon)
			if since < 6 {
				wantStep(t, s, 1, 0, whole[:19], false)
				whole = whole[19:]
			}
			if needs < 6 {
				wantRetain(t, s, needs+1, api.ErrPinned) // begun is not done
			}
			wantStep(t, s, 1, 99, whole, true)
			wantRetain(t, s, 6, api.OK)
		}
	}
}

func TestP14EachBackupPinsForItself(t *testing.T) {
	s := sixMoments(t)
	wantBackup(t, s, 5, 1, api.OK)
	wantBackup(t, s, 2, 2, api.OK)
	wantBackup(t, s, 4, 3, api.OK)
	tx := began(t, s)
	putOne(t, s, "q", "q7", 7)
	wantRetain(t, s, 8, api.ErrArg)
	wantRetain(t, s, -1, api.ErrArg)
	wantRetain(t, s, 3, api.ErrPinned)
	wantRetain(t, s, 2, api.OK)
	wantStep(t, s, 2, 99, sixDump(2, 6, 0), true)
	wantRetain(t, s, 5, api.ErrPinned)
	wantRetain(t, s, 4, api.OK)
	wantStep(t, s, 3, 99, sixDump(4, 6, 0), true)
	wantRetain(t, s, 6, api.ErrPinned)
	wantRetain(t, s, 5, api.OK)
	wantStep(t, s, 1, 99, sixDump(5, 6, 0), true)
	wantRetain(t, s, 7, api.ErrPinned)
	wantRetain(t, s, 6, api.OK)
	wantAbort(t, s, tx, api.OK)
	wantRetain(t, s, 7, api.OK)
}

func TestP14ABackupThatCouldNotBeginPinsNothing(t *testing.T) {
	s := sixMoments(t)
	for number := 1; number <= api.MaxBackups; number++ {
		wantBackup(t, s, 6, number, api.OK)
	}
	wantBackup(t, s, 2, 0, api.ErrFull)
	wantBackup(t, s, -1, 0, api.ErrArg)
	wantBackup(t, s, 7, 0, api.ErrArg)
	wantRetain(t, s, 6, api.OK)
	wantStep(t, s, 1, 0, dumpOf(6, 6, 0), true)
	wantBackup(t, s, 0, api.MaxBackups+1, api.OK)
}

func TestP14WhatGoesIsStillTold(t *testing.T) {
	for _, first := range []int{-1, 0, 1, 4, 9} {
		s := sixMoments(t)
		wantRetain(t, s, 5, api.OK)
		wantBackup(t, s, 0, 1, api.OK)
		wantBackup(t, s, 5, 2, api.OK)
		told := 0
		if first >= 0 {
			told = first
			wantStep(t, s, 1, first, head(0, 6, 5, 10)+strings.Join(sixEntries()[:first], ""), false)
		}
		wantVacuum(t, s, 1, 1, 9)
		wantVacuum(t, s, math.MaxInt, 5, 4) // a 1, 2, 3, b 1, c 3, 5
		putOne(t, s, "a", "a7", 7)
		rest := strings.Join(sixEntries()[told:], "") + sumOf(head(0, 6, 5, 10)+strings.Join(sixEntries(), ""))
		if first < 0 {
			rest = head(0, 6, 5, 10) + rest
		}
		wantStep(t, s, 1, math.MaxInt, rest, true)
		wantStep(t, s, 2, math.MaxInt, sixDump(5, 6, 5), true)
		wantBackup(t, s, 0, 3, api.OK) // one that begins behind the Vacuum tells what there is
		wantStep(t, s, 3, 9, dumpOf(0, 7, 5, entry("a", 5, "a5"), entry("a", 7, "a7"), entry("b", 4, "b4"), entry("d", 6, gone), entry("e", 6, "")), true)
	}
}

func TestP14WhatGoesAboveSinceIsToldToo(t *testing.T) {
	s := sixMoments(t)
	wantBackup(t, s, 3, 1, api.OK)
	wantRetain(t, s, 3, api.OK)
	wantVacuum(t, s, 9, 3, 7)
	whole := sixDump(3, 6, 0)
	wantStep(t, s, 1, 1, whole[:19]+entry("a", 5, "a5"), false)
	wantStep(t, s, 1, 9, whole[19+len(entry("a", 5, "a5")):], true)
	wantRetain(t, s, 6, api.OK)
	wantVacuum(t, s, 9, 4, 3)
	wantBackup(t, s, 0, 2, api.OK)
	wantStep(t, s, 2, 9, dumpOf(0, 6, 6, entry("a", 5, "a5"), entry("b", 4, "b4"), entry("e", 6, "")), true)
}

func TestP14ABackupIsNothingToTheLog(t *testing.T) {
	s := sixMoments(t)
	want := textsOf(s.Files())
	wantBackup(t, s, 0, 1, api.OK)
	wantStep(t, s, 1, 4, head(0, 6, 0, 10)+strings.Join(sixEntries()[:4], ""), false)
	wantFiles(t, s, want)
	wantCrash(t, s, 0, nil)
	wantStored(t, s, 10)
	wantNow(t, s, 6)
	wantSixMoments(t, s, 0)
	again := wantRecovered(t, want, 6, want)
	wantNoBackup(t, again, 1)
	wantRetain(t, again, 6, api.OK) // nothing is pinned there
	wantBackup(t, again, 0, 1, api.OK)
	wantStep(t, again, 1, 99, sixDump(0, 6, 6), true)
}

func TestP15Pieces(t *testing.T) {
	entries := sixEntries()
	for most := 1; most <= 12; most++ {
		s := sixMoments(t)
		wantBackup(t, s, 0, 1, api.OK)
		for at := 0; at < len(entries); at += most {
			until := min(at+most, len(entries))
			want := strings.Join(entries[at:until], "")
			if at == 0 {
				want = head(0, 6, 0, 10) + want
			}
			if until == len(entries) {
				want += sumOf(head(0, 6, 0, 10) + strings.Join(entries, ""))
			}
			wantStep(t, s, 1, most, want, until == len(entries))
		}
		wantNoBackup(t, s, 1)
	}
}

func TestP15PiecesOfNoVersion(t *testing.T) {
	for _, none := range []int{0, -1, -2, math.MinInt} {
		s := sixMoments(t)
		wantBackup(t, s, 0, 1, api.OK)
		wantStep(t, s, 1, none, head(0, 6, 0, 10), false)
		for range 3 {
			wantStep(t, s, 1, none, "", false)
		}
		wantStep(t, s, 1, 9, strings.Join(sixEntries()[:9], ""), false)
		wantStep(t, s, 1, none, "", false)
		wantStep(t, s, 1, 1, sixEntries()[9]+sumOf(head(0, 6, 0, 10)+strings.Join(sixEntries(), "")), true)
		wantNoBackup(t, s, 1)
		wantBackup(t, s, 6, 2, api.OK)
		wantStep(t, s, 2, none, dumpOf(6, 6, 0), true)
		wantNoBackup(t, s, 2)
	}
}

func TestP15BackupsThatAreNotThere(t *testing.T) {
	s := sixMoments(t)
	numbers := []int{-1, 0, 1, 2, 3, 1 << 40, math.MaxInt, math.MinInt}
	for _, number := range numbers {
		wantNoBackup(t, s, number)
	}
	began(t, s) // the number of a transaction is none of a backup's
	wantNoBackup(t, s, 1)
	wantBackup(t, s, 0, 1, api.OK)
	for _, number := range numbers {
		if number != 1 {
			wantNoBackup(t, s, number)
		}
	}
	wantStep(t, s, 1, 99, sixDump(0, 6, 0), true)
	for _, number := range numbers {
		wantNoBackup(t, s, number)
	}
}

func TestP15BackupsAreToldInTurns(t *testing.T) {
	s := sixMoments(t)
	sinces := []int{0, 2, 4}
	var whole, told [3]string
	for i, since := range sinces {
		whole[i] = sixDump(since, 6, 0)
		wantBackup(t, s, since, i+1, api.OK)
	}
	done := 0
	for round := 0; done < 3 && round < 20; round++ {
		for i := range sinces {
			if told[i] == whole[i] {
				wantNoBackup(t, s, i+1)
				continue
			}
			piece, end, e := s.Step(i+1, 1+i)
			told[i] += string(piece)
			if !strings.HasPrefix(whole[i], told[i]) || e != api.OK || end != (told[i] == whole[i]) {
				t.Fatalf("the backup %d: %q, %v, %d of %q", i+1, told[i], end, e, whole[i])
			}
			if end {
				done++
			}
		}
	}
	if done != 3 {
		t.Errorf("%d backups are done", done)
	}
}

func TestP15ABackupOfManyVersions(t *testing.T) {
	s := palimpsest.New()
	var entries []string
	for moment := 1; moment <= 400; moment++ {
		var writes []string
		for i := range api.MaxWrites {
			writes = append(writes, "key"+strconv.Itoa(moment%7)+strconv.Itoa(i), strings.Repeat(strconv.Itoa(i), 2*i)+strconv.Itoa(moment%10))
		}
		commitOf(t, s, moment, writes...)
	}
	for group := range 7 {
		for i := range api.MaxWrites {
			for moment := 1; moment <= 400; moment++ {
				if moment%7 == group {
					value := strings.Repeat(strconv.Itoa(i), 2*i) + strconv.Itoa(moment%10)
					entries = append(entries, entry("key"+strconv.Itoa(group)+strconv.Itoa(i), moment, value))
				}
			}
		}
	}
	want := dumpOf(0, 400, 0, entries...)
	if got := backedUp(t, s, 0); got != want {
		t.Errorf("a dump of %d bytes is not that of %d versions", len(got), len(entries))
	}
	wantBackup(t, s, 0, 2, api.OK)
	got := ""
	for done := false; !done; {
		var piece []byte
		piece, done, _ = s.Step(2, 3)
		got += string(piece)
	}
	if got != want {
		t.Errorf("by threes a dump of %d bytes is not that of %d versions", len(got), len(entries))
	}
	c := wantRestored(t, []string{want}, nil, 400)
	for moment := range 401 {
		pairs, _ := s.Range(moment, "", everything)
		if others, e := c.Range(moment, "", everything); !slices.Equal(others, pairs) || e != api.OK {
			t.Errorf("the copy tells %q at %d, the store %q", others, moment, pairs)
		}
	}
}

func TestP15AtMaxMoments(t *testing.T) {
	s := fullOfMoments(t, "a")
	want := dumpOf(api.MaxMoments-2, api.MaxMoments, 0, entry("a", api.MaxMoments-1, "v"), entry("a", api.MaxMoments, "v"))
	wantBackup(t, s, api.MaxMoments-2, 1, api.OK)
	wantBackup(t, s, api.MaxMoments+1, 0, api.ErrArg)
	wantStep(t, s, 1, 2, want, true)
}

func TestWaysNoGoroutineIsLeft(t *testing.T) {
	s := sixMoments(t)
	before := runtime.NumGoroutine()
	for most := range 100 {
		number, _ := s.Backup(0)
		for done := false; !done; {
			_, done, _ = s.Step(number, 1+most%12)
		}
		s.Step(number, 5)
	}
	for number, _ := s.Backup(0); number != 0; number, _ = s.Backup(0) {
		s.Step(number, 3)
	}
	for end := time.Now().Add(10 * time.Second); runtime.NumGoroutine() > before; {
		if time.Now().After(end) {
			t.Fatalf("%d goroutines, there were %d", runtime.NumGoroutine(), before)
		}
		time.Sleep(time.Millisecond)
	}
}

func TestP2WhatAStepTellsIsTheCallers(t *testing.T) {
	s := sixMoments(t)
	wantBackup(t, s, 0, 1, api.OK)
	wantBackup(t, s, 0, 2, api.OK)
	var pieces [][]byte
	for done := false; !done; {
		var first, second []byte
		first, done, _ = s.Step(1, 2)
		second, _, _ = s.Step(2, 2)
		pieces = append(pieces, first, second)
	}
	for i, piece := range pieces { // each is filled with a byte of its own, spare room too
		for k := range piece[:cap(piece)] {
			piece[:cap(piece)][k] = byte(i)
		}
	}
	for i, piece := range pieces {
		for _, b := range piece[:cap(piece)] {
			if b != byte(i) {
				t.Fatalf("the pieces %d and %d share memory", i, b)
			}
		}
	}
	wantSixMoments(t, s, 0)
	wantBackup(t, s, 0, 3, api.OK)
	wantStep(t, s, 3, 10, sixDump(0, 6, 0), true)
}

func TestP2BackupsOfOtherStores(t *testing.T) {
	s, other := sixMoments(t), palimpsest.New()
	wantBackup(t, s, 0, 1, api.OK)
	wantBackup(t, s, 0, 2, api.OK)
	wantNoBackup(t, other, 1)
	wantBackup(t, other, 0, 1, api.OK)
	wantStep(t, other, 1, 9, dumpOf(0, 0, 0), true)
	wantNoBackup(t, other, 2)
	wantStep(t, s, 1, 10, sixDump(0, 6, 0), true)
}
