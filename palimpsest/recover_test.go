package palimpsest_test

import (
	"math"
	"slices"
	"strconv"
	"strings"
	"testing"

	"palimpsest/api"
	"palimpsest/palimpsest"
)

// tenRecords are those of a store that did all that is written to a log.
func tenRecords() []string {
	return []string{
		commit(1, "a", "a1", "b", "b1"), commit(2, "a", "a2"), horizon(1), commit(3, "a", gone, "c", "c3"),
		horizon(3), commit(4, "b", "b4"), commit(5, "a", "a5", "c", gone), commit(6, "d", gone, "e", ""),
		horizon(4), horizon(6),
	}
}

// tenMoments, tenHorizons and tenVersions are now, the horizon, and how many
// versions there are, behind so many of them.
var (
	tenMoments  = []int{0, 1, 2, 2, 3, 3, 4, 5, 6, 6, 6}
	tenHorizons = []int{0, 0, 0, 1, 1, 3, 3, 3, 3, 4, 6}
	tenVersions = []int{0, 2, 3, 3, 5, 5, 6, 8, 10, 10, 10}
)

// wantTen holds that a store is what the first so many of tenRecords make.
func wantTen(t *testing.T, s *palimpsest.Store, count int) {
	t.Helper()
	wantNow(t, s, tenMoments[count])
	wantStored(t, s, tenVersions[count])
	wantHorizon(t, s, tenHorizons[count])
	wantNoRange(t, s, tenMoments[count]+1, api.ErrFuture)
	for moment := tenHorizons[count]; moment <= tenMoments[count]; moment++ {
		wantRange(t, s, moment, "", everything, sixMomentsTell[moment]...)
	}
	tx := began(t, s)
	if tx != 1 {
		t.Errorf("the first transaction has the number %d", tx)
	}
	wantScan(t, s, tx, "", everything, sixMomentsTell[tenMoments[count]]...)
	wantAbort(t, s, tx, api.OK)
}

func TestP13NoFilesAreANewStore(t *testing.T) {
	for _, files := range [][]string{
		nil, {}, {""}, {"P"}, {"junk"}, {opening(0)[:10]}, {opening(0)}, {opening(0) + "junk"}, {opening(1) + commit(1, "a", "x")},
		{opening(0) + commit(2, "a", "x")}, {opening(0) + horizon(1)}, {opening(0) + horizon(0)},
		{strings.Repeat("\x00", 1<<16)}, {opening(0) + strings.Repeat("\xff", 1<<17)},
	} {
		s := wantRecovered(t, files, 0, nil)
		wantTen(t, s, 0)
		wantCrash(t, s, math.MaxInt, nil)
		putOne(t, s, "a", "x", 1)
		wantFiles(t, s, logOf(commit(1, "a", "x")))
		wantCrash(t, s, 0, nil)
	}
	for _, files := range [][][]byte{nil, {}, {nil}, {{}}} {
		if s, e := palimpsest.Recover(files); s == nil || e != api.OK {
			t.Errorf("Recover(%q) = %d", files, e)
		}
	}
	if s, e := palimpsest.Recover([][]byte{nil, nil}); s != nil || e != api.ErrDamage {
		t.Errorf("Recover of two files of nothing = %d", e)
	}
}

func TestP13OfEveryNumberOfRecords(t *testing.T) {
	records := tenRecords()
	for count := range len(records) + 1 {
		files := logOf(records[:count]...)
		wantTen(t, wantRecovered(t, files, tenMoments[count], files), count)
	}
}

func TestP13TheLastFileCutAnywhere(t *testing.T) {
	records := tenRecords()
	files := logOf(records...)
	for size := range sizeOf(files) + 1 {
		left := firstBytes(files, size)
		count := 0
		for count < len(records) && sizeOf(logOf(records[:count+1]...)) <= size {
			count++
		}
		wantTen(t, wantRecovered(t, left, tenMoments[count], logOf(records[:count]...)), count)
	}
}

func TestP13FilesButTheLastMustBeWhole(t *testing.T) {
	files := logOf(tenRecords()...)
	for _, number := range []int{0, 1} {
		damaged := slices.Clone(files)
		for size := range len(files[number]) {
			damaged[number] = files[number][:size]
			wantDamage(t, damaged)
			wantDamage(t, append(slices.Clone(damaged[:number+1]), ""))
		}
		for _, behind := range []string{"\x00", "x", horizon(6), commit(7, "a", "x"), opening(number + 1)} {
			damaged[number] = files[number] + behind
			wantDamage(t, damaged)
		}
	}
}

func TestP13AByteChangedInAFileButTheLast(t *testing.T) {
	files := logOf(tenRecords()...)
	for number := range 2 {
		for i := range len(files[number]) {
			for _, change := range []byte{1, 2, 4, 8, 16, 32, 64, 128, 255} {
				damaged := slices.Clone(files)
				file := []byte(files[number])
				file[i] ^= change
				damaged[number] = string(file)
				wantDamage(t, damaged)
			}
		}
	}
}

func TestP13AByteChangedInTheLastFile(t *testing.T) {
	records := tenRecords()
	for _, last := range []int{4, 7, 8, 10} {
		files := logOf(records[:last]...)
		full := (last - 1) / api.SegRecords * api.SegRecords
		for i := range len(files[len(files)-1]) {
			count := full // of the records ahead of the change
			for count < last && len(logOf(records[:count+1]...)[len(files)-1]) <= i {
				count++
			}
			for bit := range 8 {
				changed := slices.Clone(files)
				file := []byte(files[len(files)-1])
				file[i] ^= 1 << bit
				changed[len(files)-1] = string(file)
				wantTen(t, wantRecovered(t, changed, tenMoments[count], logOf(records[:count]...)), count)
			}
		}
	}
}

func TestP13ALastFileThatDoesNotCount(t *testing.T) {
	first := logOf(tenRecords()[:4]...)
	horizon3 := horizon(3)
	for _, last := range []string{
		"", "P", "PL1", opening(1), opening(1)[:10], opening(0), opening(0) + horizon3, opening(2) + horizon3, first[0],
		sealed("PL2"+four(1)) + horizon3, "PL1" + four(1) + "\x00\x00\x00\x00" + horizon3, horizon3,
		opening(1) + horizon3[:len(horizon3)-1], opening(1) + "\x00" + horizon3, opening(1) + horizon(4) + horizon3,
		opening(1) + commit(5, "a", "x"), opening(1) + commit(3, "a", "x"),
	} {
		s := wantRecovered(t, []string{first[0], last}, 3, first)
		wantTen(t, s, 4)
		wantRetain(t, s, 3, api.OK)
		wantFiles(t, s, []string{first[0], opening(1) + horizon3})
		wantCrash(t, s, 0, first)
		wantDamage(t, []string{first[0], last, ""})
	}
}

func TestP13WhatStandsBehindTheLastRecord(t *testing.T) {
	records := tenRecords()
	for _, behind := range []string{"\x00", "junk", opening(1), records[4], strings.Repeat(records[4], 9)} {
		full := logOf(records[:4]...)
		wantTen(t, wantRecovered(t, []string{full[0] + behind}, 3, full), 4)
	}
	for _, behind := range []string{"\x00", "junk", opening(1), records[0] + records[9], commit(9, "a", "x") + records[9]} {
		files := logOf(records[:9]...)
		changed := slices.Clone(files)
		changed[2] += behind
		wantTen(t, wantRecovered(t, changed, 6, files), 9)
	}
}

func TestP13FilesLeftOutOrOutOfTheirOrder(t *testing.T) {
	records := tenRecords()
	f := logOf(records...)
	for _, files := range [][]string{
		{f[1], f[2]}, {f[0], f[2], f[1]}, {f[1], f[0], f[2]}, {f[0], f[0], f[1], f[2]}, {f[0], f[1], f[1], f[2]},
		{f[0], f[1], f[2], f[2]}, {"", f[0], f[1], f[2]}, {f[0], "", f[1]}, {f[0], f[1], f[2], ""}, {"", ""},
		{f[2], f[1], f[0]}, {f[1], ""}, {f[0] + f[1], f[2]},
	} {
		wantDamage(t, files)
	}
	wantTen(t, wantRecovered(t, f[1:2], 0, nil), 0)
	wantTen(t, wantRecovered(t, []string{f[0], f[2]}, 3, f[:1]), 4)
	wantTen(t, wantRecovered(t, []string{f[0], f[0]}, 3, f[:1]), 4)
	wantTen(t, wantRecovered(t, []string{f[0], f[1], f[1]}, 6, f[:2]), 8)
}

// wrongBodies are such that no store writes them behind commit(1), commit(2),
// horizon(1): their sums are right.
func wrongBodies() []string {
	var many []string
	for i := range api.MaxWrites + 1 {
		many = append(many, "k"+strconv.Itoa(10+i), "v")
	}
	bodies := []string{
		"", "C", "H", "C\x03", horizonBody(2)[:4], horizonBody(2) + "\x00", commitBody(3)[:5],
		"X" + four(3), "c" + commitBody(3, "a", "x")[1:], "h" + four(2), "\x00" + four(2),
		"H" + commitBody(3, "a", "x")[1:], "C" + four(3),
		commitBody(2, "a", "x"), commitBody(4, "a", "x"), commitBody(0, "a", "x"), commitBody(1, "a", "x"),
		commitBody(3+1<<8, "a", "x"), commitBody(3+1<<16, "a", "x"), commitBody(3+1<<24, "a", "x"), commitBody(-1, "a", "x"),
		horizonBody(0), horizonBody(1), horizonBody(3), horizonBody(2 + 1<<8), horizonBody(2 + 1<<24), horizonBody(-1), horizonBody(math.MinInt32),
		commitBody(3), commitBody(3, many...), commitBody(3, "b", "1", "a", "1"), commitBody(3, "a", "1", "a", "1"),
		commitBody(3, "a", "1", "a", gone), commitBody(3, "a", "1", "c", "1", "b", "1"), commitBody(3, "aa", "1", "a", "1"),
		commitBody(3, "a", strings.Repeat("v", api.MaxValue+1)), commitBody(3, "a", strings.Repeat("v", 255)),
		commitBody(3, "a", "x") + "\x00", commitBody(3, "a", gone) + "\x00", commitBody(3, "a", "x") + text("b") + one(1),
		"C" + four(3) + one(2) + text("a") + one(1), "C" + four(3) + one(1) + text("a"),
		"C" + four(3) + one(1) + text("a") + one(2), "C" + four(3) + one(1) + text("a") + one(255) + text("x"),
		"C" + four(3) + one(1) + text("a") + one(1) + text("x"), "C" + four(3) + one(1) + text("a") + one(0) + one(5) + "x",
		"C" + four(3) + one(1) + text("a") + one(0), "C" + four(3) + one(1) + one(3) + "a" + one(1),
		"C" + four(3) + one(0) + text("a") + one(1), "C" + four(3) + one(255) + text("a") + one(1),
	}
	for _, key := range noKeys {
		bodies = append(bodies, commitBody(3, key, "x"), commitBody(3, "0", "x", key, gone))
	}
	return bodies
}

func TestP13RecordsThatNoStoreWrites(t *testing.T) {
	ahead := []string{commit(1, "a", "a1"), commit(2, "a", "a2"), horizon(1)}
	wantRecovered(t, logOf(append(ahead, commit(3, "a", "x"))...), 3, logOf(append(ahead, commit(3, "a", "x"))...))
	for _, body := range wrongBodies() {
		records := append(slices.Clone(ahead), record(body))
		wantRecovered(t, logOf(records...), 2, logOf(ahead...))
		wantDamage(t, logOf(append(records, commit(3, "b", "x"))...))
	}
}

func TestP13SumsThatDoNotMatch(t *testing.T) {
	good := commit(1, "a", "x")
	body := good[:len(good)-4]
	for _, sum := range []string{
		"\x00\x00\x00\x00", "\xff\xff\xff\xff", sumOf(body[2:]), sumOf(body[:2]), sumOf(body + "\x00"),
		string([]byte{good[len(good)-1], good[len(good)-2], good[len(good)-3], good[len(good)-4]}),
	} {
		wantRecovered(t, []string{opening(0) + body + sum}, 0, nil)
		wantDamage(t, []string{opening(0) + body + sum + commit(2, "a", "x") + commit(3, "a", "x") + commit(4, "a", "x"), ""})
	}
	for _, number := range []int{1, 256, 1 << 24} {
		wrong := opening(0)[:3] + four(0) + sumOf("PL1"+four(number))
		wantRecovered(t, []string{wrong + good}, 0, nil)
	}
	wantRecovered(t, []string{opening(0) + good}, 1, logOf(good))
}

func TestP13ARecordOutOfItsOrder(t *testing.T) {
	var records []string
	for moment := 1; moment <= 2*api.SegRecords; moment++ {
		records = append(records, commit(moment, "a", strconv.Itoa(moment)))
	}
	for later := range records {
		for earlier := range later {
			swapped := slices.Clone(records)
			swapped[later], swapped[earlier] = swapped[earlier], swapped[later]
			if earlier < api.SegRecords {
				wantDamage(t, logOf(swapped...))
			} else {
				wantRecovered(t, logOf(swapped...), earlier, logOf(records[:earlier]...))
			}
		}
	}
}

func TestP13AHorizonOutOfItsOrder(t *testing.T) {
	one, two, three := commit(1, "a", "x"), commit(2, "a", "x"), commit(3, "a", "x")
	for _, c := range []struct {
		records []string
		right   int
		now     int
	}{
		{[]string{one, horizon(1), two, horizon(2)}, 4, 2},
		{[]string{one, two, horizon(1), horizon(2)}, 4, 2},
		{[]string{one, two, horizon(2), three}, 4, 3},
		{[]string{one, two, horizon(2), horizon(1)}, 3, 2},
		{[]string{one, horizon(2), two, three}, 1, 1},
		{[]string{horizon(1), one, two, three}, 0, 0},
		{[]string{one, horizon(1), horizon(1), two}, 2, 1},
		{[]string{one, horizon(0), two, three}, 1, 1},
	} {
		wantRecovered(t, logOf(c.records...), c.now, logOf(c.records[:c.right]...))
		if c.right < len(c.records) {
			wantDamage(t, append(logOf(c.records...), ""))
		}
	}
}

func TestP13NoCommitBehindMaxMoments(t *testing.T) {
	var records []string
	for moment := 1; moment <= api.MaxMoments; moment++ {
		records = append(records, commit(moment, "k"+strconv.Itoa(moment%7), strconv.Itoa(moment)))
	}
	files := logOf(records...)
	s := wantRecovered(t, files, api.MaxMoments, files)
	tx := began(t, s)
	wantPut(t, s, tx, "b", "x", api.OK)
	wantCommit(t, s, tx, 0, api.ErrFull)
	for moment := range api.MaxMoments + 1 {
		if moment > 7 {
			wantAsOf(t, s, moment, "k"+strconv.Itoa(moment%7), strconv.Itoa(moment), api.OK)
		}
	}
	beyond := commit(api.MaxMoments+1, "a", "x")
	wantRecovered(t, logOf(append(records, beyond)...), api.MaxMoments, files)
	last := horizon(api.MaxMoments)
	wantRecovered(t, logOf(append(records, last, beyond)...), api.MaxMoments, logOf(append(records, last)...))
	wantDamage(t, append(logOf(append(records, beyond, last, last, last)...), ""))
}

func TestP13TheLogGoesOn(t *testing.T) {
	records := tenRecords()
	for count := range len(records) {
		for more := 1; more <= 6; more++ {
			s := wantRecovered(t, logOf(records[:count]...), tenMoments[count], logOf(records[:count]...))
			now, all := tenMoments[count], slices.Clone(records[:count])
			for range more {
				now++
				putOne(t, s, "z", "z", now)
				all = append(all, commit(now, "z", "z"))
			}
			wantRetain(t, s, now, api.OK)
			all = append(all, horizon(now))
			wantFiles(t, s, logOf(all...))
			wantCrash(t, s, 0, logOf(records[:count]...))
			wantRecovered(t, logOf(all...), now, logOf(all...))
		}
	}
}

func TestP13WhatWasNotOverIsNotThere(t *testing.T) {
	s := sixMoments(t)
	for range api.MaxOpen {
		wantPut(t, s, began(t, s), "a", "own", api.OK)
	}
	again, _ := palimpsest.Recover(s.Files())
	for _, number := range []int{0, 1, 2, 7, 8, 13, 14, 15} {
		wantOver(t, again, number)
	}
	wantRetain(t, again, 6, api.OK) // nobody pins a moment
	for tx := 1; tx <= api.MaxOpen; tx++ {
		wantBegin(t, again, tx, api.OK)
		wantScan(t, again, tx, "", everything, sixMomentsTell[6]...)
	}
	wantBegin(t, again, 0, api.ErrFull)
	wantPut(t, again, 1, "a", "1", api.OK)
	wantPut(t, again, 2, "a", "2", api.OK)
	wantCommit(t, again, 1, 7, api.OK)
	wantCommit(t, again, 2, 0, api.ErrConflict)
}

func TestP13WhatVacuumLetGoIsThereAgain(t *testing.T) {
	s := sixMoments(t)
	wantRetain(t, s, 5, api.OK)
	wantVacuum(t, s, math.MaxInt, 6, 4)
	again, _ := palimpsest.Recover(s.Files())
	wantStored(t, again, 10)
	wantHorizon(t, again, 5)
	wantSixMoments(t, again, 5)
	wantVacuum(t, again, math.MaxInt, 6, 4)
	wantSixMoments(t, again, 5)
}

func TestP13WhatIsRecoveredHoldsNothingHandedIn(t *testing.T) {
	files := sixMoments(t).Files()
	s, _ := palimpsest.Recover(files)
	want := textsOf(files)
	scribble(files)
	wantSixMoments(t, s, 0)
	wantFiles(t, s, want)
	wantCrash(t, s, 0, want)
}

// P18: what a crash leaves is the store as it was at one of its moments, not
// ahead of the last Sync.
func TestP18AfterACrash(t *testing.T) {
	s := sixMoments(t)
	synced := 0
	for range 5 {
		for keep := range sizeOf(textsOf(s.Files())) {
			again, e := palimpsest.Recover(s.Crash(keep))
			if e != api.OK {
				t.Fatalf("Recover of what a crash left = %d", e)
			}
			if now := again.Now(); now < synced || now > s.Now() {
				t.Fatalf("Now() = %d after a crash, want %d to %d", now, synced, s.Now())
			}
			for moment := range again.Now() + 1 {
				want, _ := s.Range(moment, "", everything)
				if got, e := again.Range(moment, "", everything); !slices.Equal(got, want) || e != api.OK {
					t.Errorf("Range(%d) = %q, %d after a crash, want %q", moment, got, e, want)
				}
			}
		}
		s.Sync()
		synced = s.Now()
		commitOf(t, s, synced+1, "a", strconv.Itoa(synced+1), "b", gone)
	}
}
