package palimpsest_test

import (
	"slices"
	"strings"
	"testing"

	"palimpsest/api"
	"palimpsest/palimpsest"
)

// head is what stands ahead of a dump's versions, in the document's words.
func head(since, upto, floor, count int) string {
	return "PB1" + four(since) + four(upto) + four(floor) + four(count)
}

// entry is a version in a dump.
func entry(key string, moment int, value string) string {
	if value == gone {
		return text(key) + four(moment) + one(1)
	}
	return text(key) + four(moment) + one(0) + text(value)
}

func dumpOf(since, upto, floor int, entries ...string) string {
	return sealed(head(since, upto, floor, len(entries)) + strings.Join(entries, ""))
}

// sixEntries are the versions of sixMoments, as a dump tells them.
func sixEntries() []string {
	return []string{
		entry("a", 1, "a1"), entry("a", 2, "a2"), entry("a", 3, gone), entry("a", 5, "a5"),
		entry("b", 1, "b1"), entry("b", 4, "b4"), entry("c", 3, "c3"), entry("c", 5, gone), entry("d", 6, gone), entry("e", 6, ""),
	}
}

// sixMomentsOf are the moments of sixEntries.
var sixMomentsOf = []int{1, 2, 3, 5, 1, 4, 3, 5, 6, 6}

// sixDump is a dump of sixMoments, but for the versions out of its moments.
func sixDump(since, upto, floor int) string {
	var entries []string
	for i, e := range sixEntries() {
		if sixMomentsOf[i] > since && sixMomentsOf[i] <= upto {
			entries = append(entries, e)
		}
	}
	return dumpOf(since, upto, floor, entries...)
}

// sixCommits are the records of sixMoments, one for each moment.
func sixCommits() []string {
	return []string{
		commit(1, "a", "a1", "b", "b1"), commit(2, "a", "a2"), commit(3, "a", gone, "c", "c3"),
		commit(4, "b", "b4"), commit(5, "a", "a5", "c", gone), commit(6, "d", gone, "e", ""),
	}
}

func wantBackup(t *testing.T, s *palimpsest.Store, since, want int, wantErr api.Errno) {
	t.Helper()
	if n, e := s.Backup(since); n != want || e != wantErr {
		t.Errorf("Backup(%d) = %d, %d, want %d, %d", since, n, e, want, wantErr)
	}
}

// wantStep writes over the bytes that come out, and behind them.
func wantStep(t *testing.T, s *palimpsest.Store, backup, most int, want string, done bool) {
	t.Helper()
	piece, d, e := s.Step(backup, most)
	if string(piece) != want || d != done || e != api.OK {
		t.Errorf("Step(%d, %d) = %.400q, %v, %d, want %.400q, %v", backup, most, piece, d, e, want, done)
	}
	for i := range piece[:cap(piece)] {
		piece[:cap(piece)][i] = 77
	}
}

// wantNoBackup holds that there is no such backup, whatever is asked of it.
func wantNoBackup(t *testing.T, s *palimpsest.Store, backup int) {
	t.Helper()
	for _, most := range []int{-1, 0, 1, 1 << 40} {
		if piece, done, e := s.Step(backup, most); len(piece) != 0 || done || e != api.ErrBackup {
			t.Errorf("Step(%d, %d) = %q, %v, %d, want ErrBackup", backup, most, piece, done, e)
		}
	}
}

// backedUp takes a whole backup at once.
func backedUp(t *testing.T, s *palimpsest.Store, since int) string {
	t.Helper()
	number, e := s.Backup(since)
	if e != api.OK {
		t.Fatalf("Backup(%d) = %d", since, e)
	}
	data, done, e := s.Step(number, 1<<40)
	if !done || e != api.OK {
		t.Fatalf("Step(%d) = %v, %d", number, done, e)
	}
	return string(data)
}

func wantSpan(t *testing.T, c *palimpsest.Copy, from, upto int) {
	t.Helper()
	if a, b := c.Span(); a != from || b != upto {
		t.Errorf("Span() = %d, %d, want %d, %d", a, b, from, upto)
	}
}

// restoredFrom restores with spare room behind all that is handed in, and holds
// that nothing is written there; then all of it is written over.
func restoredFrom(t *testing.T, dumps, files []string, moment int) (*palimpsest.Copy, api.Errno) {
	t.Helper()
	handed := [][][]byte{bytesOf(dumps), bytesOf(files)}
	for i, list := range handed {
		handed[i] = append(list, []byte("spare"))[:len(list)]
	}
	c, e := palimpsest.Restore(handed[0], handed[1], moment)
	for i, texts := range [][]string{dumps, files} {
		if !slices.Equal(textsOf(handed[i]), texts) {
			t.Errorf("Restore(%.300q, %.300q, %d) has written into what was handed in", dumps, files, moment)
		}
		if spare := handed[i][:len(texts)+1][len(texts)]; string(spare) != "spare" {
			t.Errorf("Restore has written behind a list")
		}
		for k, data := range handed[i] {
			whole := data[:len(data)+2]
			if whole[len(data)] != spareByte || whole[len(data)+1] != spareByte {
				t.Errorf("Restore has written into spare room")
			}
			clear(whole)
			handed[i][k] = nil
		}
	}
	return c, e
}

func wantRestored(t *testing.T, dumps, files []string, moment int) *palimpsest.Copy {
	t.Helper()
	c, e := restoredFrom(t, dumps, files, moment)
	if c == nil || e != api.OK {
		t.Fatalf("Restore(%.300q, %.300q, %d) = %v, %d", dumps, files, moment, c != nil, e)
	}
	return c
}

func wantNoCopy(t *testing.T, dumps, files []string, moment int, want api.Errno) {
	t.Helper()
	if c, e := restoredFrom(t, dumps, files, moment); c != nil || e != want {
		t.Errorf("Restore(%.300q, %.300q, %d) = %v, %d, want %d", dumps, files, moment, c != nil, e, want)
	}
}

// wantCopy holds that a copy has a span, tells what sixMoments told in it, and
// nothing out of it.
func wantCopy(t *testing.T, c *palimpsest.Copy, from, upto int) {
	t.Helper()
	wantSpan(t, c, from, upto)
	wantOfSixMoments(t, c, from, upto)
	wantHorizon(t, c, from)
	wantNoRange(t, c, upto+1, api.ErrFuture)
	wantAsOf(t, c, from-1, "a", "", api.ErrNotRetained)
	wantAsOf(t, c, upto+1, "a", "", api.ErrFuture)
}
