package journal

import (
	"strings"
	"testing"

	"palimpsest/api"
)

// file writes a file of records, however many.
func file(number int, records ...Record) string {
	data := opening(number)
	for _, r := range records {
		data = appendRecord(data, r)
	}
	return string(data)
}

func one(moment int) Record { return commitOf(moment, value("a", "x")) }

// commitsFrom are so many, one moment behind the other.
func commitsFrom(moment, count int) []Record {
	var records []Record
	for i := range count {
		records = append(records, one(moment+i))
	}
	return records
}

func sameAll(a, b []Record) bool {
	if len(a) != len(b) {
		return false
	}
	for i := range a {
		if !same(a[i], b[i]) {
			return false
		}
	}
	return true
}

func wantRead(t *testing.T, data string, number int, records []Record, clean bool) {
	t.Helper()
	n, got, c := Read([]byte(data))
	if n != number || !sameAll(got, records) || c != clean {
		t.Errorf("Read(%.200q) = %d, %v, %v, want %d, %v, %v", data, n, got, c, number, records, clean)
	}
}

func TestReadTellsRecordsUpToTheFirstWrongOne(t *testing.T) {
	records := []Record{longest(), horizonOf(7), one(3), one(1)}
	for _, number := range []int{0, 9, 1<<32 - 1} {
		for count := range len(records) + 1 {
			data := file(number, records[:count]...)
			wantRead(t, data, number, records[:count], true)
			for _, behind := range []string{"x", "\x00\x00", sized("X"), string(opening(number))} {
				wantRead(t, data+behind, number, records[:count], false)
				wantRead(t, data+behind+sized("H"+four(1)), number, records[:count], false)
			}
		}
		five := file(number, append(records, horizonOf(8))...)
		wantRead(t, five, number, records, false)
	}
}

func TestReadTellsNothingBehindAWrongOpening(t *testing.T) {
	good := file(1, one(1))
	for _, data := range []string{"", "P", "PL1", good[1:], "x" + good, sealed("PL2"+four(1)) + good[11:], good[:10], sized("H" + four(1))} {
		wantRead(t, data, 0, nil, false)
	}
}

func wantCommits(t *testing.T, files []string, want ...Record) {
	t.Helper()
	if got, right := Commits(bytesOf(files)); !sameAll(got, want) || !right {
		t.Errorf("Commits(%.300q) = %v, %v, want %v", files, got, right, want)
	}
}

func wantNoCommits(t *testing.T, files ...string) {
	t.Helper()
	if got, right := Commits(bytesOf(files)); len(got) != 0 || right {
		t.Errorf("Commits(%.300q) = %v, %v, want nothing", files, got, right)
	}
}

func bytesOf(files []string) [][]byte {
	var all [][]byte
	for _, f := range files {
		all = append(all, []byte(f))
	}
	return all
}

func TestCommitsOfFilesFromAnyNumberOn(t *testing.T) {
	wantCommits(t, nil)
	for _, number := range []int{0, 1, 77, 1<<32 - 3} {
		for count := 1; count <= 3*api.SegRecords; count++ {
			records := commitsFrom(5, count)
			var files []string
			for at := 0; at < count; at += api.SegRecords {
				files = append(files, file(number+len(files), records[at:min(count, at+api.SegRecords)]...))
			}
			wantCommits(t, files, records...)
		}
	}
	full := file(1<<32-1, commitsFrom(1, 4)...)
	wantCommits(t, []string{full}, commitsFrom(1, 4)...)
	wantNoCommits(t, full, file(0, one(5)))
}

func TestCommitsOfFilesThatAreNotWhole(t *testing.T) {
	a, b, c := file(3, commitsFrom(1, 4)...), file(4, commitsFrom(5, 4)...), file(5, one(9))
	wantCommits(t, []string{a, b, c}, commitsFrom(1, 9)...)
	for _, files := range [][]string{
		{""}, {"junk"}, {a, ""}, {"", a}, {a, b, ""}, {file(0)}, {a, file(4)}, {a, b, file(5)},
		{a, c}, {b, a}, {a, a}, {b, c, a}, {a, b, b}, {c, a, b}, {a, b, c, c}, {a, b, file(4, one(9))}, {a, b, file(6, one(9))},
		{a + "x"}, {a, b + "\x00", c}, {a, b, c + "x"}, {a + sized("H"+four(1)), b}, {a + string(appendRecord(nil, one(5)))},
		{file(3, commitsFrom(1, 3)...), file(4, commitsFrom(4, 4)...)}, {a, b, c, file(6, one(10))},
		{file(3, commitsFrom(1, 5)...)}, {strings.Repeat("\x00", 1<<16)},
	} {
		wantNoCommits(t, files...)
	}
	for n := range len(a) {
		wantNoCommits(t, a[:n], b, c)
	}
	for n := range len(c) {
		wantNoCommits(t, a, b, c[:n])
	}
}

func TestCommitsOfNextMomentsAlone(t *testing.T) {
	last := api.MaxMoments
	for _, moments := range [][]int{{1}, {1, 2}, {last}, {last - 1, last}, {77, 78, 79, 80}} {
		wantCommits(t, []string{file(0, commitsFrom(moments[0], len(moments))...)}, commitsFrom(moments[0], len(moments))...)
	}
	for _, moments := range [][]int{
		{0}, {last + 1}, {1<<32 - 1}, {0, 1}, {last, last + 1}, {5, 5}, {5, 7}, {5, 4}, {5, 6, 6}, {5, 6, 8}, {5, 1}, {1, 2, 1},
	} {
		var records []Record
		for _, moment := range moments {
			records = append(records, one(moment))
		}
		wantNoCommits(t, file(0, records...))
	}
	wantNoCommits(t, file(0, commitsFrom(1, 4)...), file(1, one(4)))
	wantNoCommits(t, file(0, commitsFrom(1, 4)...), file(1, one(6)))
}

func TestCommitsAmongHorizons(t *testing.T) {
	h := horizonOf
	for _, records := range [][]Record{
		{h(1)}, {h(1 << 31)}, {h(1<<32 - 1)}, {h(9), one(3)}, {h(9), one(3), one(4)}, {one(3), h(3)}, {one(3), h(1), h(2), h(3)},
		{h(1), h(2), h(9), one(1)}, {h(2), one(3), h(3), one(4)}, {one(3), one(4), h(4)}, {h(2), one(2), one(3), h(3)},
	} {
		var commits []Record
		for _, r := range records {
			if r.Kind == Commit {
				commits = append(commits, r)
			}
		}
		wantCommits(t, []string{file(0, records...)}, commits...)
	}
	for _, records := range [][]Record{
		{h(0)}, {h(2), h(2)}, {h(2), h(1)}, {one(3), h(4)}, {one(3), h(0)}, {one(3), h(2), h(2)}, {one(3), h(2), one(4), h(2)},
		{h(9), one(3), h(3)}, {h(9), one(3), h(9)}, {h(9), one(3), h(10)}, {h(2), one(3), h(4)}, {one(3), h(3), one(4), h(5)},
		{h(0), one(1)}, {h(3), one(5), one(6), h(3)},
	} {
		wantNoCommits(t, file(0, records...))
	}
	wantNoCommits(t, file(0, one(1), h(1), one(2), one(3)), file(1, h(1)))
	wantNoCommits(t, file(0, one(1), h(1), one(2), one(3)), file(1, h(4)))
	wantCommits(t, []string{file(0, one(1), h(1), one(2), one(3)), file(1, h(2), h(3))}, commitsFrom(1, 3)...)
}
