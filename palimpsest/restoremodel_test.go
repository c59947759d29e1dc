package palimpsest_test

import (
	"slices"
	"strconv"
	"strings"
	"testing"

	"palimpsest/api"
	"palimpsest/palimpsest"
)

// plainDump is what a dump seems to say, right or not.
type plainDump struct {
	since, upto, floor int
	versions           []modelVersion
	right              bool
}

func cutFour(s *string) int {
	return cutOne(s) | cutOne(s)<<8 | cutOne(s)<<16 | cutOne(s)<<24
}

func cutVersion(s *string, v *modelVersion) {
	if v.deleted = cutOne(s) != 0; !v.deleted {
		v.value = cut(s, cutOne(s))
	}
}

func (v modelVersion) written() string {
	if v.deleted {
		return one(1)
	}
	return one(0) + text(v.value)
}

func (v modelVersion) mayBe() bool { return !modelNoKey(v.key) && len(v.value) <= api.MaxValue }

// readPlainly reads a dump loosely: it is as in Words, if what was read is
// written just so again.
func readPlainly(data string) plainDump {
	rest := data
	cut(&rest, 3)
	d := plainDump{since: cutFour(&rest), upto: cutFour(&rest), floor: cutFour(&rest)}
	count := cutFour(&rest)
	for len(d.versions) < count && len(rest) > 4 {
		v := modelVersion{key: cut(&rest, cutOne(&rest)), moment: cutFour(&rest)}
		cutVersion(&rest, &v)
		d.versions = append(d.versions, v)
	}
	again := head(d.since, d.upto, d.floor, len(d.versions))
	for _, v := range d.versions {
		again += text(v.key) + four(v.moment) + v.written()
	}
	d.right = sealed(again) == data && d.mayBe()
	return d
}

func (d plainDump) mayBe() bool {
	if d.since > d.upto || d.floor > d.upto {
		return false
	}
	if d.since != 0 && d.since < d.floor {
		return false
	}
	for i, v := range d.versions {
		if !v.mayBe() || v.moment <= d.since || v.moment > d.upto {
			return false
		}
		for _, later := range d.versions[i+1:] {
			if later.key < v.key || later.key == v.key && later.moment <= v.moment {
				return false
			}
		}
	}
	return true
}

func (r told) written() string {
	if r.kind == 'H' {
		return horizon(r.moment)
	}
	body := "C" + four(r.moment) + one(len(r.writes))
	for _, w := range r.writes {
		body += text(w.key) + w.written()
	}
	return record(body)
}

// plainRecords tells the records of files, if each is as in Words.
func plainRecords(files []string) (records []told, right bool) {
	before := 0
	for i, file := range files {
		rest := file
		cut(&rest, 3)
		number := cutFour(&rest)
		if i > 0 && number != before+1 {
			return nil, false
		}
		before = number
		count := 0
		again := opening(number)
		for rest = strings.TrimPrefix(file, again); rest != "" && count < 9; count++ {
			r := readLoosely(rest)
			rest = rest[r.size:]
			again += r.written()
			records = append(records, r)
		}
		if again != file || count < 1 || count > api.SegRecords {
			return nil, false
		}
		if i < len(files)-1 && count != api.SegRecords {
			return nil, false
		}
	}
	return records, true
}

// plainCommits tells the commits among records, if these may be by P16.
func plainCommits(records []told) (commits []told, right bool) {
	horizons := []int{0}
	for _, r := range records {
		if r.kind == 'H' {
			if r.moment <= horizons[len(horizons)-1] {
				return nil, false
			}
			if n := len(commits); n > 0 && r.moment > commits[n-1].moment {
				return nil, false
			}
			horizons = append(horizons, r.moment)
			continue
		}
		if r.moment < 1 || r.moment > api.MaxMoments || len(r.writes) < 1 || len(r.writes) > api.MaxWrites {
			return nil, false
		}
		if n := len(commits); n > 0 && r.moment != commits[n-1].moment+1 {
			return nil, false
		}
		for i, w := range r.writes {
			if !w.mayBe() || i > 0 && w.key <= r.writes[i-1].key {
				return nil, false
			}
		}
		commits = append(commits, r)
	}
	return commits, true
}

// plainRestore is P16 by its words. With OK it tells the versions of the copy
// and its floor.
func plainRestore(dumps, files []string, t int) (versions []modelVersion, floor int, e api.Errno) {
	var read []plainDump
	for _, data := range dumps {
		d := readPlainly(data)
		if !d.right {
			return nil, 0, api.ErrDamage
		}
		read = append(read, d)
		versions = append(versions, d.versions...)
	}
	records, right := plainRecords(files)
	commits, may := plainCommits(records)
	if !right || !may {
		return nil, 0, api.ErrDamage
	}
	if len(read) == 0 || read[0].since != 0 {
		return nil, 0, api.ErrGap
	}
	for i := 1; i < len(read); i++ {
		if read[i].since != read[i-1].upto {
			return nil, 0, api.ErrGap
		}
	}
	upto, last := read[len(read)-1].upto, 0
	if len(commits) > 0 && commits[0].moment > upto+1 {
		return nil, 0, api.ErrGap
	}
	for _, r := range commits {
		last = r.moment
		for _, w := range r.writes {
			if w.moment = r.moment; r.moment > upto {
				versions = append(versions, w)
			}
		}
	}
	if t < read[0].floor {
		return nil, 0, api.ErrNotRetained
	}
	if t > upto && t > last {
		return nil, 0, api.ErrFuture
	}
	return versions, read[0].floor, api.OK
}

// pairsAt tells what keys have at a moment.
func pairsAt(versions []modelVersion, moment int) []api.Pair {
	last := map[string]modelVersion{}
	for _, v := range versions {
		if v.moment <= moment && v.moment > last[v.key].moment {
			last[v.key] = v
		}
	}
	var pairs []api.Pair
	for key, v := range last {
		if !v.deleted {
			pairs = append(pairs, api.Pair{Key: key, Value: v.value})
		}
	}
	slices.SortFunc(pairs, func(a, b api.Pair) int { return strings.Compare(a.Key, b.Key) })
	return pairs
}

// dumpsAndFiles are those of a store that does this and that.
func (d *dice) dumpsAndFiles(t *testing.T) (dumps, files []string, now int) {
	s := palimpsest.New()
	upto, horizon := 0, 0
	for range d.below(25) {
		switch d.below(6) {
		case 0:
			horizon = d.below(s.Now() + 1)
			s.Retain(horizon)
		case 1:
			s.Vacuum(d.below(4))
		case 2:
			if number, e := s.Backup(upto); e == api.OK {
				data, _, _ := s.Step(number, 1<<40)
				dumps = append(dumps, string(data))
				upto = s.Now()
			}
		default:
			tx := began(t, s)
			for range 1 + d.below(3) {
				key := strconv.Itoa(d.below(3)) + "k"
				if d.below(4) == 0 {
					s.Delete(tx, key)
				} else {
					s.Put(tx, key, strings.Repeat("v", d.below(4)))
				}
			}
			s.Commit(tx)
		}
	}
	files = textsOf(s.Files())
	if len(files) > 0 && d.below(3) > 0 {
		files = files[d.below(len(files)):]
	}
	return dumps, files, s.Now()
}

// resealed takes the sum off, spoils what is left, or tells a number of four
// bytes in it a little differently, and puts the right sum behind it.
func (d *dice) resealed(data string, fields ...int) string {
	if len(data) < 4 {
		return data
	}
	content := []byte(data[:len(data)-4])
	if at := fields[d.below(len(fields))]; at < len(content) && d.below(2) == 0 {
		content[at] += []byte{1, 255, 2, byte(d.below(256))}[d.below(4)]
		return sealed(string(content))
	}
	return sealed(d.spoil(string(content)))
}

// respoilRecord spoils a record of a file, and puts the right sum behind it.
func (d *dice) respoilRecord(file string) string {
	at := len(opening(0))
	for at < len(file) {
		size := readLoosely(file[at:]).size
		if next := at + size; next >= len(file) || d.below(2) == 0 {
			body := d.resealed(file[at+2:next], 1)
			return file[:at] + record(body[:len(body)-4]) + file[next:]
		}
		at += size
	}
	return file
}

func (d *dice) spoilDumps(dumps []string) []string {
	if len(dumps) == 0 {
		return []string{d.spoil("")}
	}
	at := d.below(len(dumps))
	switch d.below(8) {
	case 0:
		dumps[at] = d.spoil(dumps[at])
	case 1:
		dumps[at] = dumps[at][:d.below(len(dumps[at])+1)]
	case 2:
		dumps = slices.Delete(dumps, at, at+1)
	case 3:
		dumps = slices.Insert(dumps, at, dumps[d.below(len(dumps))])
	case 4:
		dumps[0], dumps[at] = dumps[at], dumps[0]
	default:
		dumps[at] = d.resealed(dumps[at], 3, 7, 11, 15, 22, 24, 33)
	}
	return dumps
}

func TestP16AgainstItsPlainWords(t *testing.T) {
	answers := map[api.Errno]int{}
	spoiledButRight := 0
	for seed := range 12000 {
		d := dice(seed)
		dumps, files, now := d.dumpsAndFiles(t)
		before := slices.Concat(dumps, files)
		switch d.below(5) {
		case 0, 1:
			dumps = d.spoilDumps(dumps)
		case 2:
			files = d.spoilFiles(files)
		case 3:
			if len(files) > 0 {
				at := d.below(len(files))
				files[at] = d.respoilRecord(files[at])
			}
		}
		moment := d.below(now+6) - 2
		versions, floor, want := plainRestore(dumps, files, moment)
		answers[want]++
		if want != api.OK {
			wantNoCopy(t, dumps, files, moment, want)
		} else {
			if !slices.Equal(before, slices.Concat(dumps, files)) {
				spoiledButRight++
			}
			c := wantRestored(t, dumps, files, moment)
			wantSpan(t, c, floor, moment)
			wantNoRange(t, c, floor-1, api.ErrNotRetained)
			wantNoRange(t, c, moment+1, api.ErrFuture)
			for at := floor; at <= moment; at++ {
				if got, e := c.Range(at, "", everything); !slices.Equal(got, pairsAt(versions, at)) || e != api.OK {
					t.Errorf("Range(%d) = %q, %d, want %q", at, got, e, pairsAt(versions, at))
				}
			}
		}
		if t.Failed() {
			t.Fatalf("the dumps and files of the seed %d are not restored as they must be", seed)
		}
	}
	for _, e := range []api.Errno{api.OK, api.ErrDamage, api.ErrGap, api.ErrNotRetained, api.ErrFuture} {
		if answers[e] < 400 {
			t.Errorf("%d was answered %d times: too seldom to tell much", e, answers[e])
		}
	}
	if spoiledButRight < 200 {
		t.Errorf("%d were changed and right nevertheless: too few to tell much", spoiledButRight)
	}
}
