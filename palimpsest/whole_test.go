package palimpsest_test

import (
	"math"
	"slices"
	"strconv"
	"testing"

	"palimpsest/api"
	"palimpsest/palimpsest"
)

// What comes of it all: P18.

func TestP18ATransactionSeesOneMoment(t *testing.T) {
	s := palimpsest.New()
	d := dice(18)
	type seen struct {
		tx    int
		pairs []api.Pair
	}
	var open []seen
	for moment := 1; moment <= 300; moment++ {
		if len(open) < api.MaxOpen-1 {
			tx := began(t, s)
			pairs, _ := s.Scan(tx, "", everything)
			if all, _ := s.Range(s.Now(), "", everything); !slices.Equal(pairs, all) {
				t.Errorf("a transaction sees %q, the store tells %q", pairs, all)
			}
			open = append(open, seen{tx, pairs})
		}
		key := "k" + strconv.Itoa(d.below(9))
		commitOf(t, s, moment, key, strconv.Itoa(moment), "z", []string{gone, "z"}[moment%2])
		s.Retain(d.below(moment + 1))
		s.Vacuum(d.below(5))
		for _, o := range open {
			if pairs, e := s.Scan(o.tx, "", everything); !slices.Equal(pairs, o.pairs) || e != api.OK {
				t.Fatalf("the transaction %d sees %q, and saw %q", o.tx, pairs, o.pairs)
			}
		}
		if d.below(3) == 0 {
			at := d.below(len(open))
			wantAbort(t, s, open[at].tx, api.OK)
			open = slices.Delete(open, at, at+1)
		}
	}
}

// The lists tell the order of what two transactions do: each begins, writes,
// and commits.
func TestP18OfTwoThatWriteOneKeyOneIsCommitted(t *testing.T) {
	for _, order := range []string{"aaabbb", "aababb", "aabbab", "aabbba", "abaabb", "ababab", "ababba", "abbaab", "abbaba", "abbbaa"} {
		for _, between := range []string{"", "retain and vacuum", "backup"} {
			s := palimpsest.New()
			commitOf(t, s, 1, "k", "0")
			commitOf(t, s, 2, "k", "1")
			var numbers, done [2]int
			var answers [2]api.Errno
			for i, who := range order {
				w := int(who - 'a')
				switch done[w]++; done[w] {
				case 1:
					numbers[w] = began(t, s)
				case 2:
					wantPut(t, s, numbers[w], "k", order[i:i+1], api.OK)
				case 3:
					_, answers[w] = s.Commit(numbers[w])
				}
				switch between {
				case "backup":
					backedUp(t, s, 0)
				case "retain and vacuum":
					s.Retain(s.Now())
					s.Vacuum(math.MaxInt)
				}
			}
			apart := order == "aaabbb" // there the second one sees the first one's
			if apart != (answers[0] == api.OK && answers[1] == api.OK) || answers[0] != api.OK && answers[1] != api.OK {
				t.Errorf("%s with %q: Commit = %d and %d", order, between, answers[0], answers[1])
			}
			last := "a"
			if answers[1] == api.OK {
				last = "b"
			}
			wantAsOf(t, s, s.Now(), "k", last, api.OK)
		}
	}
}

// twins are two stores of which all is asked alike; the second one vacuums too.
type twins struct {
	t      *testing.T
	stores [2]*palimpsest.Store
	open   []int // transactions
	undone []int // backups
	gone   int
}

// one of numbers, or 0.
func (d *dice) oneOf(numbers []int) int {
	if len(numbers) == 0 {
		return 0
	}
	return numbers[d.below(len(numbers))]
}

func without(numbers []int, number int) []int {
	return slices.DeleteFunc(numbers, func(n int) bool { return n == number })
}

// both holds that the stores give the same answer.
func (w *twins) both(what string, ask func(s *palimpsest.Store) string) {
	w.t.Helper()
	plain, vacuumed := ask(w.stores[0]), ask(w.stores[1])
	if plain != vacuumed {
		w.t.Errorf("%s: %q without Vacuum, %q with it", what, plain, vacuumed)
	}
}

func answer(texts ...any) string {
	told := ""
	for _, x := range texts {
		switch x := x.(type) {
		case int:
			told += strconv.Itoa(x)
		case api.Errno:
			told += "error " + strconv.Itoa(int(x))
		case string:
			told += strconv.Quote(x)
		case bool:
			told += strconv.FormatBool(x)
		case []byte:
			told += strconv.Quote(string(x))
		case []api.Pair:
			for _, pair := range x {
				told += strconv.Quote(pair.Key) + "=" + strconv.Quote(pair.Value)
			}
		case [][]byte:
			for _, file := range x {
				told += strconv.Quote(string(file))
			}
		default:
			told += "(what?)"
		}
		told += " "
	}
	return told
}

func (w *twins) step(d *dice) {
	tx, key := d.oneOf(w.open), "k"+strconv.Itoa(d.below(5))
	moment := w.stores[0].Now() + 2 - d.below(12)
	switch d.below(16) {
	case 0, 1:
		if len(w.open) > 2 && d.below(20) > 0 { // else the horizon hardly moves
			return
		}
		w.both("Begin", func(s *palimpsest.Store) string {
			number, e := s.Begin()
			w.open = append(without(w.open, number), number)
			return answer(number, e)
		})
	case 2, 3, 4:
		w.both("Put", func(s *palimpsest.Store) string { return answer(s.Put(tx, key, "v"+strconv.Itoa(moment))) })
	case 5:
		w.both("Delete", func(s *palimpsest.Store) string { return answer(s.Delete(tx, key)) })
	case 6:
		w.both("Commit", func(s *palimpsest.Store) string { return answer(s.Commit(tx)) })
		w.open = without(w.open, tx)
	case 7:
		w.both("Get", func(s *palimpsest.Store) string { return answer(s.Get(tx, key)) })
	case 8:
		w.both("Scan", func(s *palimpsest.Store) string { return answer(s.Scan(tx, "", key)) })
	case 9:
		w.both("AsOf", func(s *palimpsest.Store) string { return answer(s.AsOf(moment, key)) })
	case 10:
		w.both("Range", func(s *palimpsest.Store) string { return answer(s.Range(moment, "", everything)) })
	case 11:
		w.both("Retain", func(s *palimpsest.Store) string { return answer(s.Retain(moment)) })
	case 12:
		w.both("Files", func(s *palimpsest.Store) string { return answer(s.Files(), s.Crash(tx), s.Now()) })
	case 13:
		w.gone += w.stores[1].Vacuum(d.below(6))
		w.both("Abort", func(s *palimpsest.Store) string { return answer(s.Abort(tx)) })
		w.open = without(w.open, tx)
	case 14: // from a moment on that is kept: above it nothing goes
		w.both("Backup", func(s *palimpsest.Store) string {
			number, e := s.Backup(max(1, moment))
			w.undone = append(without(w.undone, number), number)
			return answer(number, e)
		})
	case 15:
		number, most := d.oneOf(w.undone), d.below(4)
		w.both("Step", func(s *palimpsest.Store) string {
			piece, done, e := s.Step(number, most)
			if done {
				w.undone = without(w.undone, number)
			}
			return answer(piece, done, e)
		})
	}
}

func TestP18VacuumChangesNoAnswer(t *testing.T) {
	gone := 0
	for seed := range 100 {
		w := &twins{t: t, stores: [2]*palimpsest.Store{palimpsest.New(), palimpsest.New()}}
		d := dice(seed)
		for range 2000 {
			w.step(&d)
		}
		if t.Failed() {
			t.Fatalf("the twins of the seed %d went wrong", seed)
		}
		gone += w.gone
	}
	if gone < 1000 {
		t.Errorf("only %d versions went: too few to tell much", gone)
	}
}

func TestP18WhatABackupBehindAVacuumTellsIsLessAndTheSame(t *testing.T) {
	for horizon := 0; horizon <= 6; horizon++ {
		plain, vacuumed := sixMoments(t), sixMoments(t)
		wantRetain(t, plain, horizon, api.OK)
		wantRetain(t, vacuumed, horizon, api.OK)
		for {
			dumps := []string{backedUp(t, plain, 0), backedUp(t, vacuumed, 0)}
			if len(dumps[1]) > len(dumps[0]) || (dumps[0] == dumps[1]) != (vacuumed.Stored() == 10) {
				t.Errorf("%q without Vacuum, %q with it", dumps[0], dumps[1])
			}
			for moment := horizon; moment <= 6; moment++ {
				wantCopy(t, wantRestored(t, dumps[1:], nil, moment), horizon, moment)
			}
			if vacuumed.Vacuum(1) == 0 {
				break
			}
		}
	}
}

// TestP18ACopyTellsWhatTheStoreTold takes backups step by step, while others
// write, old moments are given up, versions go, and crashes come.
func TestP18ACopyTellsWhatTheStoreTold(t *testing.T) {
	s := palimpsest.New()
	truth := [][]api.Pair{nil}
	write := func(count int) {
		for range count {
			moment := s.Now() + 1
			commitOf(t, s, moment, "k"+strconv.Itoa(moment%5), strconv.Itoa(moment), "d"+strconv.Itoa(moment%3), []string{"", gone}[moment%2])
			pairs, _ := s.Range(moment, "", everything)
			truth = append(truth, pairs)
		}
	}
	var dumps []string
	take := func(since int) {
		number, e := s.Backup(since)
		if e != api.OK {
			t.Fatalf("Backup(%d) = %d", since, e)
		}
		whole := ""
		for done := false; !done; {
			var piece []byte
			piece, done, _ = s.Step(number, 2)
			whole += string(piece)
			write(1)
			s.Retain(s.Now() - 3)
			s.Vacuum(3)
		}
		dumps = append(dumps, whole)
	}
	check := func(upto, floor int) {
		t.Helper()
		for _, files := range [][]string{textsOf(s.Files()), textsOf(s.Files())[upto/api.SegRecords/2:]} {
			for moment := floor; moment <= s.Now(); moment++ {
				c := wantRestored(t, dumps, files, moment)
				wantSpan(t, c, floor, moment)
				for at := floor; at <= moment; at++ {
					if got, e := c.Range(at, "", everything); !slices.Equal(got, truth[at]) || e != api.OK {
						t.Fatalf("Range(%d) of a copy up to %d = %q, %d, want %q", at, moment, got, e, truth[at])
					}
				}
			}
			wantNoCopy(t, dumps, files, floor-1, api.ErrNotRetained)
			wantNoCopy(t, dumps, files, s.Now()+1, api.ErrFuture)
		}
	}
	write(9)
	wantRetain(t, s, 4, api.OK)
	s.Vacuum(3)
	take(0)
	check(9, 4)
	s.Sync()
	write(3)
	again, e := palimpsest.Recover(s.Crash(20))
	if e != api.OK || again.Now() >= s.Now() {
		t.Fatalf("Recover = %d, at %d", e, again.Now())
	}
	s = again
	truth = truth[:s.Now()+1]
	check(9, 4)
	upto := s.Now()
	write(2)
	first := dumps
	dumps = nil
	take(0) // a new beginning, since the moment 9 is kept no more
	floor := readPlainly(dumps[0]).floor
	check(upto, floor)
	for range 3 {
		upto = readPlainly(dumps[len(dumps)-1]).upto
		if s.Retain(upto) == api.OK {
			s.Vacuum(math.MaxInt)
		}
		if number, e := s.Backup(upto); e == api.OK {
			piece, _, _ := s.Step(number, math.MaxInt)
			dumps = append(dumps, string(piece))
			write(3)
		}
		check(upto, floor)
	}
	dumps = first
	check(9, 4)
}
