package palimpsest_test

import (
	"math"
	"slices"
	"testing"

	"palimpsest/api"
	"palimpsest/palimpsest"
)

// everything is above all keys: a Scan from "" to it tells them all.
const everything = "~"

// noTransactions are numbers that no transaction of these tests has.
var noTransactions = []int{0, -1, -2, 1 << 40, math.MaxInt, math.MinInt}

// noKeys are texts that are no keys.
var noKeys = []string{
	"", "A", "Z", "abcdefghi", "a b", " a", "a ", "é", "\x00", "a\x00", "-", "_", "a/", "0:", "`", "{", "\xff",
}

// gone is written in the place of a value by commitOf: the key is deleted.
const gone = "(gone)"

// asked is what can be asked by moments: a store, or a copy.
type asked interface {
	AsOf(t int, key string) (string, api.Errno)
	Range(t int, from string, to string) ([]api.Pair, api.Errno)
}

func pairsOf(keysAndValues []string) []api.Pair {
	var pairs []api.Pair
	for i := 0; i+1 < len(keysAndValues); i += 2 {
		pairs = append(pairs, api.Pair{Key: keysAndValues[i], Value: keysAndValues[i+1]})
	}
	return pairs
}

func began(t *testing.T, s *palimpsest.Store) int {
	t.Helper()
	tx, e := s.Begin()
	if e != api.OK || tx < 1 {
		t.Fatalf("Begin() = %d, %d", tx, e)
	}
	return tx
}

func wantBegin(t *testing.T, s *palimpsest.Store, want int, wantErr api.Errno) {
	t.Helper()
	if tx, e := s.Begin(); tx != want || e != wantErr {
		t.Errorf("Begin() = %d, %d, want %d, %d", tx, e, want, wantErr)
	}
}

func wantGet(t *testing.T, s *palimpsest.Store, tx int, key, want string, wantErr api.Errno) {
	t.Helper()
	if value, e := s.Get(tx, key); value != want || e != wantErr {
		t.Errorf("Get(%d, %q) = %q, %d, want %q, %d", tx, key, value, e, want, wantErr)
	}
}

// wantScan takes keys and values in turns.
func wantScan(t *testing.T, s *palimpsest.Store, tx int, from, to string, want ...string) {
	t.Helper()
	if got, e := s.Scan(tx, from, to); !slices.Equal(got, pairsOf(want)) || e != api.OK {
		t.Errorf("Scan(%d, %q, %q) = %q, %d, want %q, 0", tx, from, to, got, e, want)
	}
}

func wantAsOf(t *testing.T, s asked, moment int, key, want string, wantErr api.Errno) {
	t.Helper()
	if value, e := s.AsOf(moment, key); value != want || e != wantErr {
		t.Errorf("AsOf(%d, %q) = %q, %d, want %q, %d", moment, key, value, e, want, wantErr)
	}
}

// wantRange takes keys and values in turns.
func wantRange(t *testing.T, s asked, moment int, from, to string, want ...string) {
	t.Helper()
	if got, e := s.Range(moment, from, to); !slices.Equal(got, pairsOf(want)) || e != api.OK {
		t.Errorf("Range(%d, %q, %q) = %q, %d, want %q, 0", moment, from, to, got, e, want)
	}
}

func wantNoRange(t *testing.T, s asked, moment int, want api.Errno) {
	t.Helper()
	for _, to := range []string{everything, "", "a", "no key"} {
		if got, e := s.Range(moment, "", to); len(got) != 0 || e != want {
			t.Errorf("Range(%d, \"\", %q) = %q, %d, want nothing, %d", moment, to, got, e, want)
		}
	}
}

func wantRetain(t *testing.T, s *palimpsest.Store, moment int, want api.Errno) {
	t.Helper()
	if e := s.Retain(moment); e != want {
		t.Errorf("Retain(%d) = %d, want %d", moment, e, want)
	}
}

// wantHorizon holds that one can ask from a moment on, and not ahead of it.
func wantHorizon(t *testing.T, s asked, want int) {
	t.Helper()
	wantNoRange(t, s, want-1, api.ErrNotRetained)
	if _, e := s.Range(want, "", everything); e != api.OK {
		t.Errorf("the moment %d can't be asked: %d", want, e)
	}
}

// wantVacuum takes how many may go, how many went, and how many are left.
func wantVacuum(t *testing.T, s *palimpsest.Store, most, want, left int) {
	t.Helper()
	if gone := s.Vacuum(most); gone != want {
		t.Errorf("Vacuum(%d) = %d, want %d", most, gone, want)
	}
	wantStored(t, s, left)
}

func wantStored(t *testing.T, s *palimpsest.Store, want int) {
	t.Helper()
	if stored := s.Stored(); stored != want {
		t.Errorf("Stored() = %d, want %d", stored, want)
	}
}

func wantPut(t *testing.T, s *palimpsest.Store, tx int, key, value string, want api.Errno) {
	t.Helper()
	if e := s.Put(tx, key, value); e != want {
		t.Errorf("Put(%d, %q, %q) = %d, want %d", tx, key, value, e, want)
	}
}

func wantDelete(t *testing.T, s *palimpsest.Store, tx int, key string, want api.Errno) {
	t.Helper()
	if e := s.Delete(tx, key); e != want {
		t.Errorf("Delete(%d, %q) = %d, want %d", tx, key, e, want)
	}
}

func wantCommit(t *testing.T, s *palimpsest.Store, tx, want int, wantErr api.Errno) {
	t.Helper()
	if moment, e := s.Commit(tx); moment != want || e != wantErr {
		t.Errorf("Commit(%d) = %d, %d, want %d, %d", tx, moment, e, want, wantErr)
	}
}

func wantAbort(t *testing.T, s *palimpsest.Store, tx int, want api.Errno) {
	t.Helper()
	if e := s.Abort(tx); e != want {
		t.Errorf("Abort(%d) = %d, want %d", tx, e, want)
	}
}

func wantNow(t *testing.T, s *palimpsest.Store, want int) {
	t.Helper()
	if now := s.Now(); now != want {
		t.Errorf("Now() = %d, want %d", now, want)
	}
}

// wantOver holds that every call answers ErrTx for a transaction, whatever else is wrong.
func wantOver(t *testing.T, s *palimpsest.Store, tx int) {
	t.Helper()
	for _, key := range []string{"a", "", "no key"} {
		wantGet(t, s, tx, key, "", api.ErrTx)
		wantPut(t, s, tx, key, "v", api.ErrTx)
		wantPut(t, s, tx, key, "a value that is longer than values may be", api.ErrTx)
		wantDelete(t, s, tx, key, api.ErrTx)
		if pairs, e := s.Scan(tx, key, everything); len(pairs) != 0 || e != api.ErrTx {
			t.Errorf("Scan(%d, %q) = %q, %d, want ErrTx", tx, key, pairs, e)
		}
	}
	wantCommit(t, s, tx, 0, api.ErrTx)
	wantAbort(t, s, tx, api.ErrTx)
}

// putOne commits one key in a transaction of its own.
func putOne(t *testing.T, s *palimpsest.Store, key, value string, want int) {
	t.Helper()
	tx := began(t, s)
	wantPut(t, s, tx, key, value, api.OK)
	wantCommit(t, s, tx, want, api.OK)
}

// commitOf commits keys and values, in turns, in a transaction of its own.
func commitOf(t *testing.T, s *palimpsest.Store, want int, keysAndValues ...string) {
	t.Helper()
	tx := began(t, s)
	for _, pair := range pairsOf(keysAndValues) {
		if pair.Value == gone {
			wantDelete(t, s, tx, pair.Key, api.OK)
		} else {
			wantPut(t, s, tx, pair.Key, pair.Value, api.OK)
		}
	}
	wantCommit(t, s, tx, want, api.OK)
}

// fullOfMoments is a store at the moment MaxMoments, with one key.
func fullOfMoments(t *testing.T, key string) *palimpsest.Store {
	t.Helper()
	s := palimpsest.New()
	for moment := 1; moment <= api.MaxMoments; moment++ {
		putOne(t, s, key, "v", moment)
	}
	return s
}
