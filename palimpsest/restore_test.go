package palimpsest_test

import (
	"math"
	"slices"
	"strings"
	"testing"

	"palimpsest/api"
	"palimpsest/palimpsest"
)

// allMoments are numbers of which most are no moments.
var allMoments = []int{math.MinInt, -1, 0, 1, 3, 6, 7, api.MaxMoments, math.MaxInt}

func TestP16OneDumpToEachMoment(t *testing.T) {
	for floor := 0; floor <= 6; floor++ {
		for upto := floor; upto <= 6; upto++ {
			dumps := []string{sixDump(0, upto, floor)}
			for moment := floor; moment <= upto; moment++ {
				wantCopy(t, wantRestored(t, dumps, nil, moment), floor, moment)
			}
			for _, moment := range []int{floor - 1, -1, -2, math.MinInt} {
				wantNoCopy(t, dumps, nil, moment, api.ErrNotRetained)
			}
			for _, moment := range []int{upto + 1, upto + 2, math.MaxInt} {
				wantNoCopy(t, dumps, nil, moment, api.ErrFuture)
			}
		}
	}
}

func TestP16DumpsThatFollowEachOther(t *testing.T) {
	for first := 0; first <= 6; first++ {
		for second := first; second <= 6; second++ {
			dumps := []string{sixDump(0, first, 0), sixDump(first, second, 0), sixDump(second, 6, 0)}
			if first > 0 {
				dumps[1] = sixDump(first, second, first)
			}
			if second > 0 {
				dumps[2] = sixDump(second, 6, second)
			}
			for moment := range 7 {
				wantCopy(t, wantRestored(t, dumps, nil, moment), 0, moment)
			}
			wantNoCopy(t, dumps, nil, -1, api.ErrNotRetained)
			wantNoCopy(t, dumps, nil, 7, api.ErrFuture)
			wantNoCopy(t, dumps[:2], nil, second+1, api.ErrFuture)
		}
	}
}

func TestP16TheFirstFloorCounts(t *testing.T) {
	dumps := []string{sixDump(0, 4, 3), sixDump(4, 6, 4), sixDump(6, 6, 6), sixDump(6, 6, 0)}
	wantCopy(t, wantRestored(t, dumps, nil, 6), 3, 6)
	wantCopy(t, wantRestored(t, dumps, nil, 3), 3, 3)
	wantNoCopy(t, dumps, nil, 2, api.ErrNotRetained)
	// A dump may follow one up to 0 though it begins at 0 as well: there is no gap.
	wantCopy(t, wantRestored(t, []string{sixDump(0, 0, 0), sixDump(0, 6, 5)}, nil, 6), 0, 6)
}

func TestP16DumpsThatLeaveAGap(t *testing.T) {
	a, b, c := sixDump(0, 2, 1), sixDump(2, 4, 2), sixDump(4, 6, 2)
	whole, empty := sixDump(0, 6, 0), dumpOf(0, 0, 0)
	for _, dumps := range [][]string{
		nil, {}, {b}, {c}, {b, c}, {a, c}, {b, a}, {a, c, b}, {c, b, a}, {a, a}, {a, b, b}, {a, b, a}, {whole, whole}, {whole, a}, {a, whole},
		{sixDump(1, 2, 1)}, {a, sixDump(1, 4, 1)}, {a, sixDump(3, 4, 1)}, {a, b, sixDump(5, 6, 1)}, {a, b, sixDump(3, 6, 1)},
		{empty, b}, {a, empty}, {b, empty}, {dumpOf(6, 6, 6)}, {dumpOf(1, 1, 0)}, {dumpOf(4294967295, 4294967295, 0)},
	} {
		for _, moment := range allMoments {
			wantNoCopy(t, dumps, nil, moment, api.ErrGap)
			wantNoCopy(t, dumps, logOf(sixCommits()...), moment, api.ErrGap)
		}
	}
	for _, moment := range allMoments {
		if c, e := palimpsest.Restore([][]byte{}, [][]byte{}, moment); c != nil || e != api.ErrGap {
			t.Errorf("Restore of nothing = %v, %d", c != nil, e)
		}
	}
	wantCopy(t, wantRestored(t, []string{empty, empty, a, b, c}, nil, 6), 0, 6)
}

// logFrom are records in files from a number on.
func logFrom(number int, records ...string) []string {
	var files []string
	for i, r := range records {
		if i%api.SegRecords == 0 {
			files = append(files, opening(number+len(files)))
		}
		files[len(files)-1] += r
	}
	return files
}

func TestP16FilesBehindADump(t *testing.T) {
	commits := sixCommits()
	for upto := 0; upto <= 6; upto++ {
		dumps := []string{sixDump(0, upto, min(upto, 2))}
		for from := 0; from <= 6; from++ { // the first commit is that of the moment from+1
			for until := from; until <= 6; until++ {
				files := logFrom(70+from, commits[from:until]...)
				last := max(upto, until)
				if from == until {
					last = upto
				} else if from > upto {
					wantNoCopy(t, dumps, files, upto, api.ErrGap)
					wantNoCopy(t, dumps, files, -1, api.ErrGap)
					continue
				}
				for moment := min(upto, 2); moment <= last; moment++ {
					wantCopy(t, wantRestored(t, dumps, files, moment), min(upto, 2), moment)
				}
				wantNoCopy(t, dumps, files, min(upto, 2)-1, api.ErrNotRetained)
				wantNoCopy(t, dumps, files, last+1, api.ErrFuture)
				wantNoCopy(t, dumps, files, math.MaxInt, api.ErrFuture)
				wantNoCopy(t, dumps, files, math.MinInt, api.ErrNotRetained)
			}
		}
	}
}

func TestP16FilesBehindDumps(t *testing.T) {
	dumps := []string{sixDump(0, 2, 1), sixDump(2, 4, 2)}
	for _, records := range [][]string{
		{commit(5, "a", "a5", "c", gone), commit(6, "d", gone, "e", "")},
		{horizon(4), commit(5, "a", "a5", "c", gone), horizon(5), commit(6, "d", gone, "e", ""), horizon(6)},
		{horizon(1), commit(1, "q", "q1"), commit(2, "a", gone), commit(3, "z", "z3"), commit(4, "b", gone), commit(5, "a", "a5", "c", gone), commit(6, "d", gone, "e", "")},
	} {
		for _, number := range []int{0, 1, 255, 4294967290} {
			for moment := 1; moment <= 6; moment++ { // what the dumps tell counts, not the commits up to the last upto
				wantCopy(t, wantRestored(t, dumps, logFrom(number, records...), moment), 1, moment)
			}
			wantNoCopy(t, dumps, logFrom(number, records...), 7, api.ErrFuture)
			wantNoCopy(t, dumps, logFrom(number, records...), 0, api.ErrNotRetained)
		}
	}
	wantNoCopy(t, dumps, logFrom(0, commit(6, "d", gone)), 4, api.ErrGap)
}

func TestP16FilesWithoutCommits(t *testing.T) {
	dumps := []string{sixDump(0, 4, 2)}
	for _, files := range [][]string{
		nil, {}, logFrom(3, horizon(1)), logFrom(3, horizon(9)), logFrom(0, horizon(1), horizon(2), horizon(4294967295)),
		logFrom(4294967294, horizon(1), horizon(2), horizon(3), horizon(4), horizon(5)),
	} {
		wantCopy(t, wantRestored(t, dumps, files, 4), 2, 4)
		wantCopy(t, wantRestored(t, dumps, files, 2), 2, 2)
		wantNoCopy(t, dumps, files, 1, api.ErrNotRetained)
		wantNoCopy(t, dumps, files, 5, api.ErrFuture)
		wantNoCopy(t, nil, files, 4, api.ErrGap)
	}
}

func TestP16AtTheEdgesOfMoments(t *testing.T) {
	last := api.MaxMoments
	dumps := []string{dumpOf(0, last-1, last-1, entry("a", 5, "v"))}
	c := wantRestored(t, dumps, logFrom(9, commit(last, "a", "w")), last)
	wantSpan(t, c, last-1, last)
	wantAsOf(t, c, last-1, "a", "v", api.OK)
	wantAsOf(t, c, last, "a", "w", api.OK)
	wantNoCopy(t, dumps, logFrom(9, commit(last+1, "a", "w")), last, api.ErrDamage)
	wantNoCopy(t, dumps, logFrom(9, commit(last, "a", "w"), commit(last+1, "a", "w")), last, api.ErrDamage)
	huge := []string{dumpOf(0, 4294967295, 4294967295, entry("a", 4294967294, "v"), entry("a", 4294967295, gone), entry("b", 1, "b1"))}
	c = wantRestored(t, huge, logFrom(0, commit(7, "b", "b7")), 4294967295)
	wantSpan(t, c, 4294967295, 4294967295)
	wantRange(t, c, 4294967295, "", everything, "b", "b1")
	wantNoCopy(t, huge, nil, 4294967294, api.ErrNotRetained)
	wantNoCopy(t, huge, nil, 4294967296, api.ErrFuture)
	wantCopy(t, wantRestored(t, []string{dumpOf(0, 0, 0)}, nil, 0), 0, 0)
	wantCopy(t, wantRestored(t, []string{dumpOf(0, 0, 0)}, logFrom(0, sixCommits()...), 6), 0, 6)
}

// wantDumpDamage holds that a dump is damaged wherever it stands, and that this
// is told first.
func wantDumpDamage(t *testing.T, damaged string) {
	t.Helper()
	whole, files := sixDump(0, 6, 0), logOf(sixCommits()...)
	for _, dumps := range [][]string{{damaged}, {whole, damaged}, {damaged, whole}, {whole, damaged, damaged}} {
		wantNoCopy(t, dumps, nil, 6, api.ErrDamage)
		wantNoCopy(t, dumps, files, -1, api.ErrDamage)
		wantNoCopy(t, dumps, files, math.MaxInt, api.ErrDamage)
	}
}

func wantFilesDamage(t *testing.T, files []string) {
	t.Helper()
	for _, dumps := range [][]string{nil, {sixDump(0, 6, 0)}, {sixDump(2, 6, 0)}} {
		wantNoCopy(t, dumps, files, 6, api.ErrDamage)
		wantNoCopy(t, dumps, files, -1, api.ErrDamage)
		wantNoCopy(t, dumps, files, math.MaxInt, api.ErrDamage)
	}
}

func TestP16AByteChangedInADump(t *testing.T) {
	whole := sixDump(0, 6, 2)
	for i := range len(whole) {
		for _, change := range []byte{1, 2, 4, 8, 16, 32, 64, 128, 255} {
			data := []byte(whole)
			data[i] ^= change
			wantDumpDamage(t, string(data))
		}
	}
}

func TestP16ADumpCutOffOrWithMoreBehind(t *testing.T) {
	whole := sixDump(0, 6, 2)
	for n := range len(whole) {
		wantDumpDamage(t, whole[:n])
		wantDumpDamage(t, whole[n+1:])
		if n != len(whole)-4 {
			wantDumpDamage(t, sealed(whole[:n]))
		}
	}
	for _, behind := range []string{"\x00", "x", "\x00\x00\x00\x00", entry("f", 6, "x"), whole, sumOf(whole)} {
		wantDumpDamage(t, whole+behind)
	}
	wantDumpDamage(t, "\x00"+whole)
	wantDumpDamage(t, strings.Repeat("\x00", 1<<16))
	for _, nothing := range [][]byte{nil, {}} {
		if c, e := palimpsest.Restore([][]byte{nothing}, nil, 0); c != nil || e != api.ErrDamage {
			t.Errorf("Restore of a dump of no bytes = %v, %d", c != nil, e)
		}
		if c, e := palimpsest.Restore([][]byte{[]byte(whole)}, [][]byte{nothing}, 6); c != nil || e != api.ErrDamage {
			t.Errorf("Restore with a file of no bytes = %v, %d", c != nil, e)
		}
	}
}

func TestP16DumpsThatNoStoreTells(t *testing.T) {
	x := entry("a", 1, "x")
	for _, damaged := range []string{
		dumpOf(5, 4, 2), dumpOf(1, 0, 0), dumpOf(0, 4, 5), dumpOf(0, 0, 1), dumpOf(1, 4, 2), dumpOf(3, 4, 4),
		dumpOf(0, 4, 0, entry("a", 0, "x")), dumpOf(0, 4, 0, entry("a", 5, "x")), dumpOf(2, 4, 0, entry("a", 2, "x")), dumpOf(2, 4, 0, entry("a", 1, "x")),
		dumpOf(4, 4, 0, entry("a", 4, "x")), dumpOf(0, 0, 0, entry("a", 1, "x")),
		dumpOf(0, 4, 0, entry("b", 1, "x"), entry("a", 1, "x")), dumpOf(0, 4, 0, entry("b", 1, "x"), entry("a", 2, "x")),
		dumpOf(0, 4, 0, entry("a", 2, "x"), entry("a", 1, "x")), dumpOf(0, 4, 0, x, x), dumpOf(0, 4, 0, x, entry("a", 1, gone)),
		dumpOf(0, 4, 0, x, entry("b", 1, "x"), entry("a", 2, "x")), dumpOf(0, 4, 0, entry("a", 2, "x"), entry("9", 2, "x")),
		dumpOf(0, 4, 0, entry("", 1, "x")), dumpOf(0, 4, 0, entry("A", 1, "x")), dumpOf(0, 4, 0, entry("abcdefghi", 1, "x")), dumpOf(0, 4, 0, entry("a b", 1, gone)),
		dumpOf(0, 4, 0, entry("a", 1, strings.Repeat("v", 21))), dumpOf(0, 4, 0, text("a")+four(1)+one(2)), dumpOf(0, 4, 0, text("a")+four(1)+one(2)+text("x")),
		dumpOf(0, 4, 0, text("a")+four(1)), dumpOf(0, 4, 0, text("a")+four(1)+one(0)), dumpOf(0, 4, 0, text("a")+four(1)+one(1)+one(0)), dumpOf(0, 4, 0, "junk"),
		sealed(head(0, 4, 0, 0) + x), sealed(head(0, 4, 0, 2) + x), sealed(head(0, 4, 0, 1)), sealed(head(0, 4, 0, 4294967295) + x), sealed(head(0, 4, 0, 257) + x),
		sealed("PB2" + head(0, 4, 0, 0)[3:]), sealed("PL1" + head(0, 4, 0, 0)[3:]), sealed("pb1" + head(0, 4, 0, 0)[3:]), sealed(head(0, 4, 0, 0)[3:]), sealed(""), sealed("PB1"), logOf(sixCommits()...)[0],
	} {
		wantDumpDamage(t, damaged)
	}
}

func TestP16AByteChangedInAFile(t *testing.T) {
	files := logFrom(3, tenRecords()...)
	for number := range files {
		for i := range len(files[number]) {
			for _, change := range []byte{1, 16, 128, 255} {
				damaged := slices.Clone(files)
				data := []byte(files[number])
				data[i] ^= change
				damaged[number] = string(data)
				wantFilesDamage(t, damaged)
			}
		}
	}
}

func TestP16AFileCutOffOrWithMoreBehind(t *testing.T) {
	records := tenRecords()
	files := logFrom(3, records...)
	for number := range files {
		for n := range len(files[number]) {
			damaged := slices.Clone(files)
			damaged[number] = files[number][:n]
			if number < 2 || n != len(opening(5)+records[8]) { // there the last file has a record less
				wantFilesDamage(t, damaged)
			}
		}
		for _, behind := range []string{"\x00", "x", opening(6), "\x00\x00\x00\x00\x00\x00"} {
			damaged := slices.Clone(files)
			damaged[number] += behind
			wantFilesDamage(t, damaged)
		}
	}
	full := logFrom(0, sixCommits()[:4]...)[0]
	wantFilesDamage(t, []string{full + sixCommits()[4]}) // a fifth record
	wantFilesDamage(t, []string{full + horizon(4)})
	wantFilesDamage(t, []string{full + horizon(4), opening(1) + sixCommits()[4]})
}

func TestP16FilesLeftOutOrOutOfTheirOrder(t *testing.T) {
	f := logFrom(8, tenRecords()...)
	dumps := []string{sixDump(0, 6, 0)}
	for _, files := range [][]string{f, f[1:], f[2:], f[:1], f[:2], f[1:2]} {
		wantCopy(t, wantRestored(t, dumps, files, 6), 0, 6)
	}
	more := commit(6, "d", gone)
	for _, files := range [][]string{
		{f[0], f[2]}, {f[1], f[0]}, {f[0], f[1], f[1]}, {f[0], f[0], f[1]}, {f[0], f[2], f[1]}, {f[2], f[0], f[1]}, {f[2], f[2]},
		{"", f[0], f[1], f[2]}, {f[0], "", f[1]}, {f[0], f[1], f[2], ""}, {f[0], f[1], opening(10)}, {opening(8)}, {f[0], opening(9)}, {opening(7), f[0]},
		{opening(8) + sixCommits()[0], opening(9) + sixCommits()[1]}, {f[0] + f[1]}, {"", ""}, {"junk"}, {sixDump(0, 6, 0)},
		{logFrom(4294967295, sixCommits()[:4]...)[0], opening(0) + sixCommits()[4]}, {f[0], f[1], f[2], opening(11) + more},
		{sealed("PL2"+four(8)) + more}, {sealed("PB1"+four(8)) + more}, {sealed("pl1"+four(8)) + more}, {more}, {"PL1" + four(8) + more},
	} {
		wantFilesDamage(t, files)
	}
	wantCopy(t, wantRestored(t, dumps, []string{logFrom(4294967295, sixCommits()[:4]...)[0]}, 6), 0, 6)
}

func TestP16RecordsThatMayNotBe(t *testing.T) {
	a5, a6 := commit(5, "a", "x"), commit(6, "a", "x")
	var eleven []string
	for key := 'a'; key < 'a'+11; key++ {
		eleven = append(eleven, string(key), "x")
	}
	wantCopy(t, wantRestored(t, []string{sixDump(0, 6, 0)}, logFrom(0, commit(5, eleven[:20]...)), 6), 0, 6)
	for _, records := range [][]string{
		{commit(0, "a", "x")}, {commit(api.MaxMoments+1, "a", "x")}, {commit(4294967295, "a", "x")}, {a5, a5}, {a5, commit(7, "a", "x")}, {a6, a5}, {a5, a6, a6},
		{commit(5)}, {commit(5, eleven...)}, {commit(5, "b", "x", "a", "x")}, {commit(5, "a", "x", "a", "y")}, {commit(5, "A", "x")}, {commit(5, "", "x")},
		{commit(5, "abcdefghi", "x")}, {commit(5, "a", strings.Repeat("v", 21))}, {record("")}, {record("X")}, {record("C")}, {record("H")},
		{record(commitBody(5, "a", "x") + "\x00")}, {record(horizonBody(5) + "\x00")}, {record("X" + four(5))}, {record("C" + four(5) + one(1) + text("a") + one(2))},
		{horizon(0)}, {horizon(2), horizon(2)}, {horizon(2), horizon(1)}, {a5, horizon(6)}, {a5, horizon(0)}, {a5, horizon(5), horizon(5)}, {a5, horizon(5), a6, horizon(5)},
		{horizon(9), a5, horizon(5)}, {horizon(9), a5, horizon(9)}, {horizon(9), a5, horizon(10)}, {a5, a6, horizon(7)},
	} {
		wantFilesDamage(t, logFrom(0, records...))
	}
	for _, records := range [][]string{{a5}, {a5, a6}, {horizon(9), a5}, {a5, horizon(5)}, {a5, horizon(1), horizon(5), a6}, {horizon(6), a5, a6}} {
		wantCopy(t, wantRestored(t, []string{sixDump(0, 6, 0)}, logFrom(0, records...), 6), 0, 6)
	}
}

func TestP17AsAStoreOfThatSpan(t *testing.T) {
	c := wantRestored(t, []string{sixDump(0, 5, 3)}, logOf(sixCommits()...), 6)
	wantSpan(t, c, 3, 6)
	for _, moment := range allMoments {
		for _, key := range noKeys {
			wantAsOf(t, c, moment, key, "", api.ErrArg)
		}
	}
	for _, moment := range []int{math.MinInt, -1, 0, 2} {
		wantAsOf(t, c, moment, "b", "", api.ErrNotRetained)
		wantNoRange(t, c, moment, api.ErrNotRetained)
	}
	for _, moment := range []int{7, 8, math.MaxInt} {
		wantAsOf(t, c, moment, "b", "", api.ErrFuture)
		wantNoRange(t, c, moment, api.ErrFuture)
	}
	wantRange(t, c, 5, "a", "b", "a", "a5")
	wantRange(t, c, 5, "a\x00", "zzz", "b", "b4")
	wantRange(t, c, 6, "b", "e", "b", "b4")
	wantRange(t, c, 6, "b", "e\x00", "b", "b4", "e", "")
	wantRange(t, c, 6, "b", "b")
	wantRange(t, c, 6, "z", "a")
	wantRange(t, c, 6, "", "")
	wantCopy(t, c, 3, 6)
}

func TestP17ACopyKnowsNothingBeyondItsSpan(t *testing.T) {
	c := wantRestored(t, []string{sixDump(0, 6, 0)}, nil, 3)
	wantCopy(t, c, 0, 3)
	wantAsOf(t, c, 3, "b", "b1", api.OK)
	wantAsOf(t, c, 4, "b", "", api.ErrFuture)
}

func TestP2CopiesAreTheirOwn(t *testing.T) {
	s := sixMoments(t)
	dumps, files := bytesOf([]string{backedUp(t, s, 0)}), s.Files()
	first, e := palimpsest.Restore(dumps, files, 6)
	if e != api.OK {
		t.Fatalf("Restore = %d", e)
	}
	second, _ := palimpsest.Restore(dumps, files, 5)
	scribble(dumps)
	scribble(files)
	commitOf(t, s, 7, "a", gone, "b", "b7")
	wantRetain(t, s, 7, api.OK)
	wantVacuum(t, s, math.MaxInt, 10, 2)
	wantCopy(t, first, 0, 6)
	wantCopy(t, second, 0, 5)
	pairs, _ := first.Range(6, "", everything)
	others, _ := first.Range(6, "", everything)
	for i := range pairs[:cap(pairs)] {
		pairs[:cap(pairs)][i] = api.Pair{Key: "over", Value: "written"}
	}
	if !slices.Equal(others, pairsOf(sixMomentsTell[6])) {
		t.Errorf("two lists that came out share memory: %q", others)
	}
	wantCopy(t, first, 0, 6)
}
