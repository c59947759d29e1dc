package journal

import (
	"hash/crc32"
	"math"
	"slices"
	"strings"
	"testing"

	"palimpsest/api"
	"palimpsest/history"
)

func four(n uint32) string {
	return string([]byte{byte(n), byte(n >> 8), byte(n >> 16), byte(n >> 24)})
}

func sealed(text string) string { return text + four(crc32.ChecksumIEEE([]byte(text))) }

func sized(body string) string {
	return sealed(string([]byte{byte(len(body)), byte(len(body) >> 8)}) + body)
}

func commitOf(moment int, writes ...Write) Record {
	return Record{Kind: Commit, Moment: moment, Writes: writes}
}

func horizonOf(moment int) Record { return Record{Kind: Horizon, Moment: moment} }

func value(key, text string) Write { return Write{Key: key, Version: history.Version{Value: text}} }

func deletion(key string) Write { return Write{Key: key, Version: history.Version{Deleted: true}} }

// longest is a commit whose body has 316 bytes.
func longest() Record {
	r := commitOf(api.MaxMoments)
	for i := range api.MaxWrites {
		r.Writes = append(r.Writes, value("longkey"+string(rune('0'+i)), strings.Repeat("v", api.MaxValue)))
	}
	return r
}

func same(a, b Record) bool {
	return a.Kind == b.Kind && a.Moment == b.Moment && slices.Equal(a.Writes, b.Writes)
}

// samples are records and their bodies.
func samples() map[string]Record {
	long := longest()
	body := "C" + four(api.MaxMoments) + "\x0a"
	for _, w := range long.Writes {
		body += "\x08" + w.Key + "\x00\x14" + w.Version.Value
	}
	return map[string]Record{
		"C" + four(1) + "\x01\x01a\x00\x01x":                               commitOf(1, value("a", "x")),
		"C" + four(258) + "\x01\x01a\x01":                                  commitOf(258, deletion("a")),
		"C" + four(3) + "\x03\x010\x00\x00\x02ab\x01\x01b\x00\x02\x00\xff": commitOf(3, value("0", ""), deletion("ab"), value("b", "\x00\xff")),
		"H" + four(1):     horizonOf(1),
		"H" + four(70000): horizonOf(70000),
		body:              long,
	}
}

func TestRecordsAreWrittenAndReadJustSo(t *testing.T) {
	for body, record := range samples() {
		want := sized(body)
		if got := string(appendRecord([]byte("ahead"), record)); got != "ahead"+want {
			t.Errorf("%v is written as %q, want %q behind what was there", record, got, want)
		}
		got, behind, right := cutRecord([]byte(want + "behind"))
		if !same(got, record) || string(behind) != "behind" || !right {
			t.Errorf("cutRecord(%q) = %v, %q, %v, want %v", want, got, behind, right, record)
		}
	}
}

func wantNoRecord(t *testing.T, data string) {
	t.Helper()
	if record, behind, right := cutRecord([]byte(data)); right || len(behind) != 0 || !same(record, Record{}) {
		t.Errorf("cutRecord(%q) = %v, %q, %v", data, record, behind, right)
	}
}

func TestAPartOfARecordIsNone(t *testing.T) {
	for body := range samples() {
		for n := range len(sized(body)) {
			wantNoRecord(t, sized(body)[:n])
		}
	}
}

func TestAChangedRecordIsNone(t *testing.T) {
	for body := range samples() {
		for i := range 8 * len(sized(body)) {
			data := []byte(sized(body) + "more that stands behind it")
			data[i/8] ^= 1 << (i % 8)
			wantNoRecord(t, string(data))
		}
	}
}

func TestBodiesThatAreNone(t *testing.T) {
	eleven := "C" + four(1) + "\x0b"
	for key := 'a'; key < 'a'+11; key++ {
		eleven += "\x01" + string(key) + "\x01"
	}
	for _, body := range []string{
		"", "C", "H", "X", "C" + four(1), "H\x01\x00\x00", "X" + four(1), "c" + four(1) + "\x01\x01a\x01", "h" + four(1),
		"\x00" + four(1), "H" + four(1) + "\x00", "H" + four(1) + "\x01\x01a\x01",
		"C" + four(1) + "\x00", "C" + four(1) + "\x00\x01a\x01", eleven,
		"C" + four(1) + "\x01\x01a\x01\x00", "C" + four(1) + "\x01\x01a\x01\x01b\x01", "C" + four(1) + "\x02\x01a\x01",
		"C" + four(1) + "\x02\x01b\x01\x01a\x01", "C" + four(1) + "\x02\x01a\x01\x01a\x01",
		"C" + four(1) + "\x03\x01a\x01\x01c\x01\x01b\x01", "C" + four(1) + "\x03\x01a\x01\x01b\x01\x01b\x00\x00",
		"C" + four(1) + "\x01\x00\x01", "C" + four(1) + "\x01\x01A\x01", "C" + four(1) + "\x01\x09abcdefghi\x01",
		"C" + four(1) + "\x01\x01a\x02", "C" + four(1) + "\x01\x01a\x00\x15" + strings.Repeat("v", 21),
		"C" + four(1) + "\x01\x01a\x00\x02v", "C" + four(1) + "\x01\x01a\x00\x01vv", "C" + four(1) + "\x01\x01a", "C" + four(1) + "\x01\x02a",
		"C" + four(1) + "\xff" + strings.Repeat("\x00", 1000), strings.Repeat("\x00", 65535),
	} {
		wantNoRecord(t, sized(body))
	}
}

func TestOpenings(t *testing.T) {
	for _, number := range []int{0, 1, 255, 256, 70000, 1<<32 - 1} {
		want := sealed("PL1" + four(uint32(number)))
		if got := string(opening(number)); got != want || len(got) != 11 {
			t.Errorf("opening(%d) = %q, want %q", number, got, want)
		}
		if got, behind, right := cutOpening([]byte(want + "behind")); got != number || string(behind) != "behind" || !right {
			t.Errorf("cutOpening(%d) = %d, %q, %v", number, got, behind, right)
		}
		for n := range len(want) {
			wantNoOpening(t, want[:n])
			for bit := range 8 {
				other := []byte(want + "behind")
				other[n] ^= 1 << bit
				wantNoOpening(t, string(other))
			}
		}
	}
	for _, other := range []string{"", "junk", sealed("PL2" + four(1)), sealed("PB1" + four(1)), sealed("pl1" + four(1)), sealed("PL1" + four(1)[:3])} {
		wantNoOpening(t, other+"behind")
	}
}

func wantNoOpening(t *testing.T, file string) {
	t.Helper()
	if number, behind, right := cutOpening([]byte(file)); number != 0 || len(behind) != 0 || right {
		t.Errorf("cutOpening(%q) = %d, %q, %v", file, number, behind, right)
	}
}

func texts(files [][]byte) []string {
	var all []string
	for _, file := range files {
		all = append(all, string(file))
	}
	return all
}

func wantFiles(t *testing.T, what string, got [][]byte, want ...string) {
	t.Helper()
	if !slices.Equal(texts(got), want) {
		t.Errorf("%s: %q, want %q", what, got, want)
	}
}

func TestAFileComesWithItsFirstRecord(t *testing.T) {
	j := &Journal{}
	var want []string
	wantFiles(t, "nothing", j.Files())
	for moment := 1; moment <= 3*api.SegRecords+1; moment++ {
		if (moment-1)%api.SegRecords == 0 {
			want = append(want, string(opening(len(want))))
		}
		j.Add(horizonOf(moment))
		want[len(want)-1] += sized("H" + four(uint32(moment)))
		wantFiles(t, "with one more", j.Files(), want...)
	}
}

// cut tells the first bytes of files, made one by one.
func cut(files []string, count int) []string {
	var left []string
	for _, file := range files {
		for i := range len(file) {
			if count--; count < 0 {
				return left
			}
			if i == 0 {
				left = append(left, "")
			}
			left[len(left)-1] += file[i : i+1]
		}
	}
	return left
}

func TestLeftAtEveryByte(t *testing.T) {
	j := &Journal{}
	wantFiles(t, "nothing", j.Left(9))
	j.Sync()
	wantFiles(t, "nothing", j.Left(9))
	synced := 0
	for moment := 1; moment <= 2*api.SegRecords+2; moment++ {
		j.Add(commitOf(moment, value("a", "v"), deletion("b")))
		all := texts(j.Files())
		size := len(strings.Join(all, ""))
		for keep := range size - synced + 3 {
			wantFiles(t, "a crash", j.Left(keep), cut(all, synced+keep)...)
		}
		for _, none := range []int{-1, -size, math.MinInt, math.MinInt + 1} {
			wantFiles(t, "a crash that keeps nothing", j.Left(none), cut(all, synced)...)
		}
		wantFiles(t, "a crash that keeps all", j.Left(math.MaxInt), all...)
		if moment%3 == 0 {
			j.Sync()
			synced = size
		}
		wantFiles(t, "the journal is as before", j.Files(), all...)
	}
}

func TestWhatComesOutIsNew(t *testing.T) {
	j := &Journal{}
	for moment := 1; moment <= api.SegRecords+1; moment++ {
		j.Add(horizonOf(moment))
	}
	want := texts(j.Files())
	for _, files := range [][][]byte{j.Files(), j.Left(20), j.Left(math.MaxInt)} {
		for i, file := range files {
			for k := range file[:cap(file)] {
				file[:cap(file)][k] = 77
			}
			files[i] = nil
		}
	}
	wantFiles(t, "after all that came out was written over", j.Files(), want...)
	j.Add(horizonOf(api.SegRecords + 2))
	want[1] += sized("H" + four(api.SegRecords+2))
	wantFiles(t, "with one more", j.Files(), want...)
}
