package palimpsest_test

import (
	"slices"
	"strings"
	"testing"

	"palimpsest/api"
	"palimpsest/palimpsest"
)

// told is what a record seems to say, right or not.
type told struct {
	kind   byte
	moment int
	writes []modelVersion
	size   int // of the record
}

// cut takes a piece off a text, shorter if there is no more.
func cut(s *string, size int) string {
	piece := (*s)[:min(size, len(*s))]
	*s = (*s)[len(piece):]
	return piece
}

func cutOne(s *string) int {
	if piece := cut(s, 1); piece != "" {
		return int(piece[0])
	}
	return 0
}

// readLoosely reads a record without asking whether it is right.
func readLoosely(data string) told {
	rest := data
	length := cutOne(&rest) + 256*cutOne(&rest)
	body := cut(&rest, length)
	r := told{kind: byte(cutOne(&body)), size: min(len(data), 2+length+4)}
	for shift := range 4 {
		r.moment |= cutOne(&body) << (8 * shift)
	}
	for range cutOne(&body) {
		v := modelVersion{key: cut(&body, cutOne(&body))}
		if v.deleted = cutOne(&body) != 0; !v.deleted {
			v.value = cut(&body, cutOne(&body))
		}
		r.writes = append(r.writes, v)
	}
	return r
}

// obey has a store do what a record seems to say, as far as it does such things.
func obey(s *palimpsest.Store, r told) {
	if r.kind == 'H' {
		s.Retain(r.moment)
		return
	}
	tx, _ := s.Begin()
	for _, w := range r.writes {
		if w.deleted {
			s.Delete(tx, w.key)
		} else {
			s.Put(tx, w.key, w.value)
		}
	}
	s.Commit(tx)
}

func obeyAll(records []string) *palimpsest.Store {
	s := palimpsest.New()
	for _, r := range records {
		obey(s, readLoosely(r))
	}
	return s
}

// plainRecover is P13 by its own words: a record is right if a store that has
// done what the records ahead of it say, and then does what it says, writes
// just it. It tells the right records, or that there is damage.
func plainRecover(files []string) (records []string, damage bool) {
	for number, file := range files {
		rest, begun := strings.CutPrefix(file, opening(number))
		count := 0
		for begun && rest != "" && count < api.SegRecords {
			with := append(slices.Clone(records), rest[:readLoosely(rest).size])
			if !slices.Equal(textsOf(obeyAll(with).Files()), logOf(with...)) {
				break
			}
			records, rest = with, rest[len(with[len(with)-1]):]
			count++
		}
		whole := begun && count == api.SegRecords && rest == ""
		if !whole && number < len(files)-1 {
			return nil, true
		}
	}
	return records, false
}

// spoil changes, puts in or takes out a byte of a text.
func (d *dice) spoil(s string) string {
	at := d.below(len(s) + 1)
	b := one([]int{0, 1, 2, 3, 255, 'a', 'C', 'H', d.below(256)}[d.below(9)])
	switch {
	case d.below(3) == 0 || at == len(s):
		return s[:at] + b + s[at:]
	case d.below(2) == 0:
		return s[:at] + s[at+1:]
	}
	return s[:at] + b + s[at+1:]
}

// records are such as a store writes, but for a body that is spoiled at times;
// their sums are right.
func (d *dice) records() []string {
	var records []string
	now, horizon := 0, 0
	for range d.below(12) {
		body := ""
		if horizon < now && d.below(3) == 0 {
			horizon += 1 + d.below(now-horizon)
			body = horizonBody(horizon)
		} else {
			now++
			keysAndValues := []string{"a", "x", "b", gone, "c", "", "d", "vvvv"}
			body = commitBody(now, keysAndValues[:2+2*d.below(4)]...)
		}
		if d.below(12) == 0 {
			body = d.spoil(body)
		}
		records = append(records, record(body))
	}
	return records
}

// spoilFiles does to files what happens to files.
func (d *dice) spoilFiles(files []string) []string {
	if len(files) == 0 {
		return []string{d.spoil("")}
	}
	at := d.below(len(files))
	switch d.below(7) {
	case 0:
		files[at] = d.spoil(files[at])
	case 1:
		files[at] = files[at][:d.below(len(files[at])+1)]
	case 2:
		files[at] += d.spoil(files[d.below(len(files))])
	case 3:
		files = slices.Delete(files, at, at+1)
	case 4:
		files = slices.Insert(files, at, files[d.below(len(files))])
	case 5:
		files[0], files[at] = files[at], files[0]
	case 6:
		last := len(files) - 1
		files[last] = files[last][:d.below(len(files[last])+1)]
	}
	return files
}

func TestP13AgainstAStoreThatDoesWhatTheRecordsSay(t *testing.T) {
	damaged, partial, all := 0, 0, 0
	for seed := range 4000 {
		d := dice(seed)
		files := logOf(d.records()...)
		if d.below(3) > 0 {
			files = d.spoilFiles(files)
		}
		records, damage := plainRecover(files)
		if damage {
			damaged++
			wantDamage(t, files)
			continue
		}
		if slices.Equal(logOf(records...), files) {
			all++
		} else {
			partial++
		}
		want := obeyAll(records)
		got := wantRecovered(t, files, want.Now(), logOf(records...))
		wantStored(t, got, want.Stored())
		for moment := -1; moment <= want.Now()+1; moment++ {
			pairs, e := want.Range(moment, "", everything)
			if others, other := got.Range(moment, "", everything); !slices.Equal(others, pairs) || other != e {
				t.Errorf("Range(%d) = %q, %d, want %q, %d", moment, others, other, pairs, e)
			}
		}
		if t.Failed() {
			t.Fatalf("the files of the seed %d are not recovered as they must be", seed)
		}
	}
	if damaged < 400 || partial < 400 || all < 400 {
		t.Errorf("%d damaged, %d in part, %d whole: too few of a kind to tell much", damaged, partial, all)
	}
}
