package dump

import (
	"hash/crc32"
	"math"
	"runtime"
	"slices"
	"strconv"
	"strings"
	"testing"
	"time"

	"palimpsest/history"
)

func four(n int) string {
	return string([]byte{byte(n), byte(n >> 8), byte(n >> 16), byte(n >> 24)})
}

func sealed(text string) string { return text + four(int(crc32.ChecksumIEEE([]byte(text)))) }

func head(since, upto, floor, count int) string {
	return "PB1" + four(since) + four(upto) + four(floor) + four(count)
}

func value(key string, moment int, text string) history.Entry {
	return history.Entry{Key: key, Moment: moment, Version: history.Version{Value: text}}
}

func deletion(key string, moment int) history.Entry {
	return history.Entry{Key: key, Moment: moment, Version: history.Version{Deleted: true}}
}

func written(e history.Entry) string {
	text := string([]byte{byte(len(e.Key))}) + e.Key + four(e.Moment)
	if e.Version.Deleted {
		return text + "\x01"
	}
	return text + "\x00" + string([]byte{byte(len(e.Version.Value))}) + e.Version.Value
}

// plain writes a dump, right or not.
func plain(d Dump) string {
	text := head(d.Since, d.Upto, d.Floor, len(d.Entries))
	for _, e := range d.Entries {
		text += written(e)
	}
	return sealed(text)
}

func samples() []Dump {
	long := Dump{Since: 3, Upto: 1<<32 - 1, Floor: 2}
	for i := range 300 {
		long.Entries = append(long.Entries, value("k"+strconv.Itoa(1000+i), 4+i, strings.Repeat("v", i%21)))
	}
	long.Entries = append(long.Entries, deletion("z", 1<<32-1))
	return []Dump{
		{},
		{Since: 5, Upto: 5, Floor: 5},
		{Upto: 5, Floor: 5},
		{Upto: 1<<32 - 1},
		{Upto: 1, Entries: []history.Entry{value("a", 1, "x")}},
		{Upto: 4, Floor: 2, Entries: []history.Entry{
			value("a", 2, "2"), value("a", 4, ""), value("b", 1, "\x00\xff"), deletion("b", 2), deletion("b", 3),
		}},
		{Since: 2, Upto: 5, Floor: 2, Entries: []history.Entry{value("9", 3, "nine"), deletion("abcdefgh", 5), value("b", 3, "20 bytes, no more ..")}},
		long,
	}
}

func same(a, b Dump) bool {
	return a.Since == b.Since && a.Upto == b.Upto && a.Floor == b.Floor && slices.Equal(a.Entries, b.Entries)
}

func TestReadTellsTheDump(t *testing.T) {
	for _, d := range samples() {
		if got, right := Read([]byte(plain(d))); !same(got, d) || !right {
			t.Errorf("Read(%.200q) = %v, %v", plain(d), got, right)
		}
	}
}

func wantNoDump(t *testing.T, data string) {
	t.Helper()
	if got, right := Read([]byte(data)); !same(got, Dump{}) || right {
		t.Errorf("Read(%.200q) = %v, %v", data, got, right)
	}
}

func TestAPartOfADumpIsNone(t *testing.T) {
	for _, d := range samples()[:7] {
		whole := plain(d)
		for n := range len(whole) {
			wantNoDump(t, whole[:n])
			if n != len(whole)-4 { // there it is the whole again
				wantNoDump(t, sealed(whole[:n]))
			}
			wantNoDump(t, whole[n+1:])
		}
		wantNoDump(t, whole+"\x00")
		wantNoDump(t, whole+whole)
		wantNoDump(t, sealed(whole))
	}
}

func TestAChangedDumpIsNone(t *testing.T) {
	for _, d := range samples()[:7] {
		for i := range 8 * len(plain(d)) {
			data := []byte(plain(d))
			data[i/8] ^= 1 << (i % 8)
			wantNoDump(t, string(data))
		}
	}
}

func TestMomentsThatMayNotBe(t *testing.T) {
	a := value("a", 3, "x")
	for _, d := range []Dump{
		{Since: 5, Upto: 4}, {Since: 1}, {Floor: 1}, {Upto: 4, Floor: 5}, {Since: 1, Upto: 4, Floor: 2}, {Since: 3, Upto: 4, Floor: 4},
		{Since: 1<<32 - 1, Upto: 5}, {Upto: 5, Floor: 1<<32 - 1},
		{Since: 3, Upto: 4, Entries: []history.Entry{a}}, {Since: 4, Upto: 5, Entries: []history.Entry{a}},
		{Upto: 2, Entries: []history.Entry{a}}, {Entries: []history.Entry{a}}, {Upto: 5, Entries: []history.Entry{value("a", 0, "x")}},
		{Upto: 5, Entries: []history.Entry{a, value("b", 6, "x")}}, {Upto: 5, Entries: []history.Entry{value("a", 1<<32-1, "x"), value("b", 1, "x")}},
	} {
		wantNoDump(t, plain(d))
	}
}

func TestEntriesOutOfTheirOrder(t *testing.T) {
	for _, entries := range [][]history.Entry{
		{value("b", 1, "x"), value("a", 1, "x")}, {value("b", 1, "x"), value("a", 2, "x")}, {value("a", 2, "x"), value("a", 1, "x")},
		{value("a", 1, "x"), value("a", 1, "x")}, {value("a", 1, "x"), deletion("a", 1)}, {value("aa", 1, "x"), value("a", 2, "x")},
		{value("a", 1, "x"), value("b", 1, "x"), value("a", 2, "x")}, {value("a", 1, "x"), value("b", 1, "x"), value("b", 1, "x")},
		{value("a", 1, "x"), value("9", 2, "x")},
	} {
		wantNoDump(t, plain(Dump{Upto: 4, Entries: entries}))
	}
}

func TestEntriesThatMayNotBe(t *testing.T) {
	for _, e := range []history.Entry{
		value("", 1, "x"), value("A", 1, "x"), value("abcdefghi", 1, "x"), value("a b", 1, "x"), deletion("-", 1), value("a", 1, strings.Repeat("v", 21)),
	} {
		wantNoDump(t, plain(Dump{Upto: 4, Entries: []history.Entry{e}}))
		wantNoDump(t, plain(Dump{Upto: 4, Entries: []history.Entry{e, value("z", 1, "x")}}))
	}
	for _, entry := range []string{"x", "\x01a", "\x01a" + four(1), "\x01a" + four(1) + "\x02", "\x01a" + four(1) + "\x01\x00", "\x01a" + four(1) + "\x00\x02x", "\x01a" + four(1) + "\x00\x01xx"} {
		wantNoDump(t, sealed(head(0, 4, 0, 1)+entry))
	}
}

func TestACountThatIsNotThatOfTheVersions(t *testing.T) {
	a, b := written(value("a", 1, "x")), written(deletion("b", 2))
	for _, count := range []int{0, 1, 3, 258, 1<<31 + 2, 1<<32 - 1} {
		wantNoDump(t, sealed(head(0, 4, 0, count)+a+b))
	}
	for _, count := range []int{1, 1 << 31, 1<<32 - 1} {
		wantNoDump(t, sealed(head(0, 4, 0, count)))
	}
	if _, right := Read([]byte(sealed(head(0, 4, 0, 2) + a + b))); !right {
		t.Errorf("the right count is not right")
	}
	wantNoDump(t, sealed("PB2"+head(0, 0, 0, 0)[3:]))
	wantNoDump(t, sealed("PL1"+head(0, 0, 0, 0)[3:]))
	wantNoDump(t, sealed(head(0, 0, 0, 0)[3:]))
}

// pieces tells a dump by pieces of at most so many versions, and holds that only
// the last one says that all is told.
func pieces(t *testing.T, d Dump, most int) []string {
	t.Helper()
	telling := Tell(d)
	for told := []string(nil); ; {
		piece, all := telling.Next(most)
		told = append(told, string(piece))
		clear(piece[:cap(piece)])
		if all {
			return told
		}
		if len(told) > len(d.Entries) {
			t.Fatalf("%d pieces of %d versions, and no end", len(told), len(d.Entries))
		}
	}
}

func TestADumpIsToldInPieces(t *testing.T) {
	for _, d := range samples() {
		for _, most := range []int{1, 2, 3, 4, 5, 6, 299, 300, 301, 302, math.MaxInt} {
			got := pieces(t, d, most)
			if whole := strings.Join(got, ""); whole != plain(d) {
				t.Errorf("by %d: %.300q, want %.300q", most, whole, plain(d))
			}
			if want := max(1, (len(d.Entries)-1)/most+1); len(got) != want {
				t.Errorf("by %d: %d pieces, want %d", most, len(got), want)
			}
		}
	}
}

func TestPiecesOfNoVersion(t *testing.T) {
	d := samples()[5]
	telling := Tell(d)
	for i, most := range []int{0, -1, math.MinInt, 0} {
		want := ""
		if i == 0 {
			want = head(0, 4, 2, 5)
		}
		if piece, all := telling.Next(most); string(piece) != want || all {
			t.Errorf("Next(%d) = %q, %v, want %q", most, piece, all, want)
		}
	}
	rest := plain(d)[len(head(0, 4, 2, 5)):]
	if piece, all := telling.Next(5); string(piece) != rest || !all {
		t.Errorf("Next(5) = %q, %v, want %q", piece, all, rest)
	}
	for _, most := range []int{math.MinInt, -1, 0, 1} {
		if piece, all := Tell(Dump{}).Next(most); string(piece) != plain(Dump{}) || !all {
			t.Errorf("Next(%d) of a dump of nothing = %q, %v", most, piece, all)
		}
	}
}

func TestNoSenderIsLeft(t *testing.T) {
	before := runtime.NumGoroutine()
	for range 50 {
		for most := range 8 {
			telling := Tell(samples()[5])
			for range 3 {
				telling.Next(most)
			}
		}
	}
	for end := time.Now().Add(10 * time.Second); runtime.NumGoroutine() > before; {
		if time.Now().After(end) {
			t.Fatalf("%d goroutines, there were %d", runtime.NumGoroutine(), before)
		}
		time.Sleep(time.Millisecond)
	}
}
