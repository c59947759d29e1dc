package palimpsest_test

import (
	"cmp"
	"slices"
	"strconv"
	"strings"
	"testing"

	"palimpsest/api"
	"palimpsest/palimpsest"
)

// model does what the document says in the slowest and plainest way: lists
// that are gone through from one end to the other.
type model struct {
	versions []modelVersion
	open     []*modelTx
	now      int
	horizon  int
	begun    int
	log      []modelRecord
	synced   int // bytes
}

// modelRecord is a commit's, if it has versions, else a horizon's.
type modelRecord struct {
	moment   int
	versions []modelVersion
	bytes    string
}

type modelVersion struct {
	key, value string
	moment     int
	deleted    bool
}

type modelTx struct {
	number, sees int
	writes       []modelVersion // the last one of a key counts
}

func (m *model) find(number int) *modelTx {
	for _, tx := range m.open {
		if tx.number == number {
			return tx
		}
	}
	return nil
}

func (m *model) end(number int) {
	m.open = slices.DeleteFunc(m.open, func(tx *modelTx) bool { return tx.number == number })
}

func (m *model) begin() (int, api.Errno) {
	if len(m.open) == api.MaxOpen {
		return 0, api.ErrFull
	}
	m.begun++
	m.open = append(m.open, &modelTx{number: m.begun, sees: m.now})
	return m.begun, api.OK
}

func (m *model) value(tx *modelTx, key string) (string, bool) {
	for i := len(tx.writes) - 1; i >= 0; i-- {
		if v := tx.writes[i]; v.key == key {
			return v.value, !v.deleted
		}
	}
	return m.valueAt(tx.sees, key)
}

func (m *model) valueAt(moment int, key string) (string, bool) {
	for i := len(m.versions) - 1; i >= 0; i-- {
		if v := m.versions[i]; v.key == key && v.moment <= moment {
			return v.value, !v.deleted
		}
	}
	return "", false
}

func (m *model) get(number int, key string) (string, api.Errno) {
	tx := m.find(number)
	if tx == nil {
		return "", api.ErrTx
	}
	if modelNoKey(key) {
		return "", api.ErrArg
	}
	value, there := m.value(tx, key)
	if !there {
		return "", api.ErrNone
	}
	return value, api.OK
}

func (m *model) scan(number int, from, to string, keys []string) ([]api.Pair, api.Errno) {
	tx := m.find(number)
	if tx == nil {
		return nil, api.ErrTx
	}
	var pairs []api.Pair
	for _, key := range keys {
		if value, there := m.value(tx, key); there && key >= from && key < to {
			pairs = append(pairs, api.Pair{Key: key, Value: value})
		}
	}
	return pairs, api.OK
}

func (m *model) write(number int, v modelVersion) api.Errno {
	tx := m.find(number)
	if tx == nil {
		return api.ErrTx
	}
	if modelNoKey(v.key) || len(v.value) > api.MaxValue {
		return api.ErrArg
	}
	var others []string
	for _, w := range tx.writes {
		if w.key != v.key && !slices.Contains(others, w.key) {
			others = append(others, w.key)
		}
	}
	if len(others) >= api.MaxWrites {
		return api.ErrFull
	}
	tx.writes = append(tx.writes, v)
	return api.OK
}

func (m *model) commit(number int) (int, api.Errno) {
	tx := m.find(number)
	if tx == nil {
		return 0, api.ErrTx
	}
	if len(tx.writes) == 0 {
		m.end(number)
		return tx.sees, api.OK
	}
	for _, w := range tx.writes {
		for _, v := range m.versions {
			if v.key == w.key && v.moment > tx.sees {
				m.end(number)
				return 0, api.ErrConflict
			}
		}
	}
	if m.now == api.MaxMoments {
		return 0, api.ErrFull
	}
	record := modelRecord{moment: m.now + 1}
	for i, w := range tx.writes {
		sameKey := func(later modelVersion) bool { return later.key == w.key }
		if !slices.ContainsFunc(tx.writes[i+1:], sameKey) {
			w.moment = record.moment
			record.versions = append(record.versions, w)
		}
	}
	m.do(record)
	m.end(number)
	return m.now, api.OK
}

func (m *model) do(r modelRecord) {
	r.bytes = r.written()
	m.log = append(m.log, r)
	if len(r.versions) == 0 {
		m.horizon = r.moment
		return
	}
	m.now = r.moment
	m.versions = append(m.versions, r.versions...)
}

func (m *model) files() []string {
	var records []string
	for _, r := range m.log {
		records = append(records, r.bytes)
	}
	return logOf(records...)
}

func (r modelRecord) written() string {
	if len(r.versions) == 0 {
		return horizon(r.moment)
	}
	slices.SortFunc(r.versions, func(a, b modelVersion) int { return cmp.Compare(a.key, b.key) })
	var keysAndValues []string
	for _, v := range r.versions {
		if v.deleted {
			v.value = gone
		}
		keysAndValues = append(keysAndValues, v.key, v.value)
	}
	return commit(r.moment, keysAndValues...)
}

// recovered is the model of a store of which a crash has left so many bytes.
func (m *model) recovered(left int) *model {
	again := &model{}
	for i, r := range m.log {
		size := len(r.bytes)
		if i%api.SegRecords == 0 {
			size += len(opening(0))
		}
		if again.synced+size > left {
			break
		}
		again.do(r)
		again.synced += size
	}
	return again
}

func (m *model) abort(number int) api.Errno {
	if m.find(number) == nil {
		return api.ErrTx
	}
	m.end(number)
	return api.OK
}

func (m *model) asOf(moment int, key string) (string, api.Errno) {
	switch {
	case modelNoKey(key):
		return "", api.ErrArg
	case moment < m.horizon:
		return "", api.ErrNotRetained
	case moment > m.now:
		return "", api.ErrFuture
	}
	value, there := m.valueAt(moment, key)
	if !there {
		return "", api.ErrNone
	}
	return value, api.OK
}

func (m *model) rangeAt(moment int, from, to string, keys []string) ([]api.Pair, api.Errno) {
	if moment < m.horizon {
		return nil, api.ErrNotRetained
	}
	if moment > m.now {
		return nil, api.ErrFuture
	}
	var pairs []api.Pair
	for _, key := range keys {
		if value, there := m.valueAt(moment, key); there && key >= from && key < to {
			pairs = append(pairs, api.Pair{Key: key, Value: value})
		}
	}
	return pairs, api.OK
}

func (m *model) retain(moment int) api.Errno {
	if moment < m.horizon || moment > m.now {
		return api.ErrArg
	}
	for _, tx := range m.open {
		if tx.sees < moment {
			return api.ErrPinned
		}
	}
	if moment != m.horizon {
		m.do(modelRecord{moment: moment})
	}
	return api.OK
}

// vacuum looks for the first version that may go from the beginning each time.
func (m *model) vacuum(most int) int {
	slices.SortFunc(m.versions, func(a, b modelVersion) int {
		return cmp.Or(cmp.Compare(a.key, b.key), cmp.Compare(a.moment, b.moment))
	})
	went := 0
	for went < most {
		next := m.firstThatMayGo()
		if next < 0 {
			break
		}
		m.versions = slices.Delete(m.versions, next, next+1)
		went++
	}
	return went
}

// firstThatMayGo is P10's own words, on versions by keys, of one key by moments.
func (m *model) firstThatMayGo() int {
	for i, v := range m.versions {
		first := i == 0 || m.versions[i-1].key != v.key
		if v.deleted && v.moment <= m.horizon && first {
			return i
		}
		if i+1 == len(m.versions) {
			break
		}
		if later := m.versions[i+1]; later.key == v.key && later.moment <= m.horizon {
			return i
		}
	}
	return -1
}

func modelNoKey(key string) bool {
	return key == "" || len(key) > api.MaxKey || strings.Trim(key, "abcdefghijklmnopqrstuvwxyz0123456789") != ""
}

// dice gives numbers that look thrown but are the same in every run.
type dice uint64

func (d *dice) below(n int) int {
	*d = *d*6364136223846793005 + 1442695040888963407
	return int(uint64(*d) >> 33 % uint64(n))
}

// walk makes calls on a store and on the model, and holds their answers against each other.
type walk struct {
	t    *testing.T
	s    *palimpsest.Store
	m    *model
	d    dice
	keys []string // in order
	safe bool     // crashes leave all
}

func newWalk(t *testing.T, seed int, keys int) *walk {
	w := &walk{t: t, s: palimpsest.New(), m: &model{}, d: dice(seed)}
	for i := range keys {
		w.keys = append(w.keys, "k"+strconv.Itoa(i))
	}
	slices.Sort(w.keys)
	return w
}

func (w *walk) key() string {
	if w.d.below(20) == 0 {
		return noKeys[w.d.below(len(noKeys))]
	}
	return w.keys[w.d.below(len(w.keys))]
}

func (w *walk) number() int {
	if n := len(w.m.open); n > 0 && w.d.below(15) > 0 {
		return w.m.open[w.d.below(n)].number
	}
	return w.d.below(w.m.begun+3) - 1
}

// moment is one from a little ahead of the horizon to a little above now.
func (w *walk) moment() int {
	return w.m.horizon - 2 + w.d.below(w.m.now-w.m.horizon+5)
}

func (w *walk) step() {
	switch tx := w.number(); w.d.below(17) {
	case 0, 1:
		want, e := w.m.begin()
		wantBegin(w.t, w.s, want, e)
	case 2:
		want, e := w.m.commit(tx)
		wantCommit(w.t, w.s, tx, want, e)
	case 3:
		if w.d.below(4) == 0 {
			wantAbort(w.t, w.s, tx, w.m.abort(tx))
		}
	case 4, 5, 6, 7:
		key, value := w.key(), strings.Repeat("v", w.d.below(api.MaxValue+2))
		wantPut(w.t, w.s, tx, key, value, w.m.write(tx, modelVersion{key: key, value: value}))
	case 8:
		key := w.key()
		wantDelete(w.t, w.s, tx, key, w.m.write(tx, modelVersion{key: key, deleted: true}))
	case 9, 10:
		key := w.key()
		want, e := w.m.get(tx, key)
		wantGet(w.t, w.s, tx, key, want, e)
	case 11:
		w.scan(tx, w.key(), w.key())
	case 12:
		moment, key := w.moment(), w.key()
		want, e := w.m.asOf(moment, key)
		wantAsOf(w.t, w.s, moment, key, want, e)
	case 13:
		w.rangeAt(w.moment(), w.key(), w.key())
	case 14:
		if moment := w.moment(); w.d.below(4) == 0 {
			wantRetain(w.t, w.s, moment, w.m.retain(moment))
		}
	case 15:
		most := w.d.below(5) - 1
		wantVacuum(w.t, w.s, most, w.m.vacuum(most), len(w.m.versions))
	case 16:
		if w.d.below(10) == 0 {
			w.crash()
		}
	}
	wantNow(w.t, w.s, w.m.now)
	wantStored(w.t, w.s, len(w.m.versions))
}

// crash holds the logs against each other, and goes on with what a crash has
// left of them, or makes sure that it leaves all.
func (w *walk) crash() {
	files := w.m.files()
	size := sizeOf(files)
	wantFiles(w.t, w.s, files)
	keep := w.d.below(size-w.m.synced+20) - 10
	if w.safe {
		keep = size
	}
	left := min(w.m.synced+max(0, keep), size)
	wantCrash(w.t, w.s, keep, firstBytes(files, left))
	if w.d.below(3) > 0 {
		w.s.Sync()
		w.m.synced = size
		return
	}
	s, e := palimpsest.Recover(w.s.Crash(keep))
	if s == nil || e != api.OK {
		w.t.Fatalf("Recover of what a crash left = %d", e)
	}
	w.s, w.m = s, w.m.recovered(left)
	wantFiles(w.t, w.s, w.m.files())
}

func (w *walk) rangeAt(moment int, from, to string) {
	want, wantErr := w.m.rangeAt(moment, from, to, w.keys)
	if got, e := w.s.Range(moment, from, to); !slices.Equal(got, want) || e != wantErr {
		w.t.Errorf("Range(%d, %q, %q) = %q, %d, want %q, %d", moment, from, to, got, e, want, wantErr)
	}
}

// end asks for all that can be asked for, vacuums all that may go, and asks again.
func (w *walk) end() {
	wantFiles(w.t, w.s, w.m.files())
	for range 2 {
		for moment := w.m.horizon - 1; moment <= w.m.now+1; moment++ {
			w.rangeAt(moment, "", everything)
		}
		for _, tx := range w.m.open {
			w.scan(tx.number, "", everything)
		}
		wantVacuum(w.t, w.s, len(w.m.versions)+1, w.m.vacuum(len(w.m.versions)+1), len(w.m.versions))
	}
}

func (w *walk) scan(tx int, from, to string) {
	want, wantErr := w.m.scan(tx, from, to, w.keys)
	if got, e := w.s.Scan(tx, from, to); !slices.Equal(got, want) || e != wantErr {
		w.t.Errorf("Scan(%d, %q, %q) = %q, %d, want %q, %d", tx, from, to, got, e, want, wantErr)
	}
}

func TestStoreAnswersAsTheModel(t *testing.T) {
	for seed := range 100 {
		w := newWalk(t, seed, []int{2, 5, 15, 40}[seed%4])
		for range 1500 {
			w.step()
		}
		w.end()
		if t.Failed() {
			t.Fatalf("the walk of the seed %d went wrong", seed)
		}
	}
}

func TestStoreAnswersAsTheModelBeyondMaxMoments(t *testing.T) {
	w := newWalk(t, 7, 80)
	w.safe = true
	for steps := 0; w.m.now < api.MaxMoments && steps < 100*api.MaxMoments && !t.Failed(); steps++ {
		w.step()
	}
	wantNow(t, w.s, api.MaxMoments)
	for range 500 {
		w.step()
	}
}
