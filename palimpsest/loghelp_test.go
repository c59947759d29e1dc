package palimpsest_test

import (
	"slices"
	"testing"

	"palimpsest/api"
	"palimpsest/palimpsest"
)

// The bytes of the document's section Words, made in its words, and without the
// program's help.

func one(n int) string { return string([]byte{byte(n)}) }

func four(n int) string { return one(n) + one(n>>8) + one(n>>16) + one(n>>24) }

func text(s string) string { return one(len(s)) + s }

func sumOf(s string) string {
	sum := uint32(4294967295)
	for i := range len(s) {
		sum ^= uint32(s[i])
		for range 8 {
			low := sum & 1
			sum >>= 1
			if low == 1 {
				sum ^= 3988292384
			}
		}
	}
	return four(int(^sum))
}

func sealed(s string) string { return s + sumOf(s) }

func opening(number int) string { return sealed("PL1" + four(number)) }

func record(body string) string {
	return sealed(one(len(body)%256) + one(len(body)/256) + body)
}

func horizonBody(moment int) string { return "H" + four(moment) }

// commitBody takes keys and values in turns, in their order.
func commitBody(moment int, keysAndValues ...string) string {
	body := "C" + four(moment) + one(len(keysAndValues)/2)
	for _, pair := range pairsOf(keysAndValues) {
		body += text(pair.Key)
		if pair.Value == gone {
			body += one(1)
		} else {
			body += one(0) + text(pair.Value)
		}
	}
	return body
}

func commit(moment int, keysAndValues ...string) string {
	return record(commitBody(moment, keysAndValues...))
}

func horizon(moment int) string { return record(horizonBody(moment)) }

// logOf tells the files in which records stand.
func logOf(records ...string) []string {
	var files []string
	for i, r := range records {
		if i%api.SegRecords == 0 {
			files = append(files, opening(i/api.SegRecords))
		}
		files[len(files)-1] += r
	}
	return files
}

// firstBytes tells so many bytes of files, file by file.
func firstBytes(files []string, count int) []string {
	var left []string
	for _, file := range files {
		if count < 1 {
			break
		}
		part := file[:min(count, len(file))]
		left = append(left, part)
		count -= len(part)
	}
	return left
}

func sizeOf(files []string) int {
	size := 0
	for _, file := range files {
		size += len(file)
	}
	return size
}

func textsOf(files [][]byte) []string {
	var texts []string
	for _, file := range files {
		texts = append(texts, string(file))
	}
	return texts
}

// spareByte stands in the spare room of what is handed in.
const spareByte = 78

// bytesOf tells files with spare room behind each.
func bytesOf(files []string) [][]byte {
	var all [][]byte
	for _, file := range files {
		all = append(all, append([]byte(file), spareByte, spareByte)[:len(file)])
	}
	return all
}

func wantLog(t *testing.T, what string, got [][]byte, want []string) {
	t.Helper()
	if !slices.Equal(textsOf(got), want) {
		t.Errorf("%s: %.400q, want %.400q", what, got, want)
	}
}

func wantFiles(t *testing.T, s *palimpsest.Store, want []string) {
	t.Helper()
	wantLog(t, "Files()", s.Files(), want)
}

func wantCrash(t *testing.T, s *palimpsest.Store, keep int, want []string) {
	t.Helper()
	wantLog(t, "Crash", s.Crash(keep), want)
}

// wantRecovered recovers a store, which has a log of these files, all synced. It
// holds that nothing handed in is written into, and none of it is kept.
func wantRecovered(t *testing.T, files []string, now int, want []string) *palimpsest.Store {
	t.Helper()
	handed := bytesOf(files)
	s, e := palimpsest.Recover(handed)
	if s == nil || e != api.OK {
		t.Fatalf("Recover(%.400q) = %v, %d", files, s, e)
	}
	if !slices.Equal(textsOf(handed), files) {
		t.Errorf("Recover(%.400q) has written into what was handed in", files)
	}
	for i, file := range handed {
		whole := file[:len(file)+2]
		if whole[len(file)] != spareByte || whole[len(file)+1] != spareByte {
			t.Errorf("Recover(%.400q) has written into spare room", files)
		}
		clear(whole)
		handed[i] = nil
	}
	wantNow(t, s, now)
	wantFiles(t, s, want)
	wantCrash(t, s, 0, want)
	return s
}

func wantDamage(t *testing.T, files []string) {
	t.Helper()
	if s, e := palimpsest.Recover(bytesOf(files)); s != nil || e != api.ErrDamage {
		t.Errorf("Recover(%.400q) = %v, %d, want ErrDamage", files, s != nil, e)
	}
}
