package palimpsest_test

import (
	"slices"
	"strconv"
	"strings"
	"testing"

	"palimpsest/api"
	"palimpsest/palimpsest"
)

// model does what the document says in the slowest and plainest way: lists
// that are gone through from one end to the other.
type model struct {
	versions []modelVersion
	open     []*modelTx
	now      int
	begun    int
}

type modelVersion struct {
	key, value string
	moment     int
	deleted    bool
}

type modelTx struct {
	number, sees int
	writes       []modelVersion // the last one of a key counts
}

func (m *model) find(number int) *modelTx {
	for _, tx := range m.open {
		if tx.number == number {
			return tx
		}
	}
	return nil
}

func (m *model) end(number int) {
	m.open = slices.DeleteFunc(m.open, func(tx *modelTx) bool { return tx.number == number })
}

func (m *model) begin() (int, api.Errno) {
	if len(m.open) == api.MaxOpen {
		return 0, api.ErrFull
	}
	m.begun++
	m.open = append(m.open, &modelTx{number: m.begun, sees: m.now})
	return m.begun, api.OK
}

func (m *model) value(tx *modelTx, key string) (string, bool) {
	for i := len(tx.writes) - 1; i >= 0; i-- {
		if v := tx.writes[i]; v.key == key {
			return v.value, !v.deleted
		}
	}
	for i := len(m.versions) - 1; i >= 0; i-- {
		if v := m.versions[i]; v.key == key && v.moment <= tx.sees {
			return v.value, !v.deleted
		}
	}
	return "", false
}

func (m *model) get(number int, key string) (string, api.Errno) {
	tx := m.find(number)
	if tx == nil {
		return "", api.ErrTx
	}
	if modelNoKey(key) {
		return "", api.ErrArg
	}
	value, there := m.value(tx, key)
	if !there {
		return "", api.ErrNone
	}
	return value, api.OK
}

func (m *model) scan(number int, from, to string, keys []string) ([]api.Pair, api.Errno) {
	tx := m.find(number)
	if tx == nil {
		return nil, api.ErrTx
	}
	var pairs []api.Pair
	for _, key := range keys {
		if value, there := m.value(tx, key); there && key >= from && key < to {
			pairs = append(pairs, api.Pair{Key: key, Value: value})
		}
	}
	return pairs, api.OK
}

func (m *model) write(number int, v modelVersion) api.Errno {
	tx := m.find(number)
	if tx == nil {
		return api.ErrTx
	}
	if modelNoKey(v.key) || len(v.value) > api.MaxValue {
		return api.ErrArg
	}
	var others []string
	for _, w := range tx.writes {
		if w.key != v.key && !slices.Contains(others, w.key) {
			others = append(others, w.key)
		}
	}
	if len(others) >= api.MaxWrites {
		return api.ErrFull
	}
	tx.writes = append(tx.writes, v)
	return api.OK
}

func (m *model) commit(number int) (int, api.Errno) {
	tx := m.find(number)
	if tx == nil {
		return 0, api.ErrTx
	}
	if len(tx.writes) == 0 {
		m.end(number)
		return tx.sees, api.OK
	}
	for _, w := range tx.writes {
		for _, v := range m.versions {
			if v.key == w.key && v.moment > tx.sees {
				m.end(number)
				return 0, api.ErrConflict
			}
		}
	}
	if m.now == api.MaxMoments {
		return 0, api.ErrFull
	}
	m.now++
	for _, w := range tx.writes {
		w.moment = m.now
		m.versions = append(m.versions, w)
	}
	m.end(number)
	return m.now, api.OK
}

func (m *model) abort(number int) api.Errno {
	if m.find(number) == nil {
		return api.ErrTx
	}
	m.end(number)
	return api.OK
}

func modelNoKey(key string) bool {
	return key == "" || len(key) > api.MaxKey || strings.Trim(key, "abcdefghijklmnopqrstuvwxyz0123456789") != ""
}

// dice gives numbers that look thrown but are the same in every run.
type dice uint64

func (d *dice) below(n int) int {
	*d = *d*6364136223846793005 + 1442695040888963407
	return int(uint64(*d) >> 33 % uint64(n))
}

// walk makes calls on a store and on the model, and holds their answers against each other.
type walk struct {
	t    *testing.T
	s    *palimpsest.Store
	m    *model
	d    dice
	keys []string // in order
}

func newWalk(t *testing.T, seed int, keys int) *walk {
	w := &walk{t: t, s: palimpsest.New(), m: &model{}, d: dice(seed)}
	for i := range keys {
		w.keys = append(w.keys, "k"+strconv.Itoa(i))
	}
	slices.Sort(w.keys)
	return w
}

func (w *walk) key() string {
	if w.d.below(20) == 0 {
		return noKeys[w.d.below(len(noKeys))]
	}
	return w.keys[w.d.below(len(w.keys))]
}

func (w *walk) number() int {
	if n := len(w.m.open); n > 0 && w.d.below(15) > 0 {
		return w.m.open[w.d.below(n)].number
	}
	return w.d.below(w.m.begun+3) - 1
}

func (w *walk) step() {
	switch tx := w.number(); w.d.below(12) {
	case 0, 1:
		want, e := w.m.begin()
		wantBegin(w.t, w.s, want, e)
	case 2:
		want, e := w.m.commit(tx)
		wantCommit(w.t, w.s, tx, want, e)
	case 3:
		if w.d.below(4) == 0 {
			wantAbort(w.t, w.s, tx, w.m.abort(tx))
		}
	case 4, 5, 6, 7:
		key, value := w.key(), strings.Repeat("v", w.d.below(api.MaxValue+2))
		wantPut(w.t, w.s, tx, key, value, w.m.write(tx, modelVersion{key: key, value: value}))
	case 8:
		key := w.key()
		wantDelete(w.t, w.s, tx, key, w.m.write(tx, modelVersion{key: key, deleted: true}))
	case 9, 10:
		key := w.key()
		want, e := w.m.get(tx, key)
		wantGet(w.t, w.s, tx, key, want, e)
	case 11:
		w.scan(tx, w.key(), w.key())
	}
	wantNow(w.t, w.s, w.m.now)
}

func (w *walk) scan(tx int, from, to string) {
	want, wantErr := w.m.scan(tx, from, to, w.keys)
	if got, e := w.s.Scan(tx, from, to); !slices.Equal(got, want) || e != wantErr {
		w.t.Errorf("Scan(%d, %q, %q) = %q, %d, want %q, %d", tx, from, to, got, e, want, wantErr)
	}
}

func TestStoreAnswersAsTheModel(t *testing.T) {
	for seed := range 60 {
		w := newWalk(t, seed, []int{2, 5, 15, 40}[seed%4])
		for range 800 {
			w.step()
		}
		for _, tx := range w.m.open {
			w.scan(tx.number, "", everything)
		}
		if t.Failed() {
			t.Fatalf("the walk of the seed %d went wrong", seed)
		}
	}
}

func TestStoreAnswersAsTheModelBeyondMaxMoments(t *testing.T) {
	w := newWalk(t, 7, 200)
	for steps := 0; w.m.now < api.MaxMoments && steps < 100*api.MaxMoments && !t.Failed(); steps++ {
		w.step()
	}
	wantNow(t, w.s, api.MaxMoments)
	for range 500 {
		w.step()
	}
}
