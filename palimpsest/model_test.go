package palimpsest_test

import (
	"cmp"
	"slices"
	"strconv"
	"strings"
	"testing"

	"palimpsest/api"
	"palimpsest/palimpsest"
)

// model does what the document says in the slowest and plainest way: lists
// that are gone through from one end to the other.
type model struct {
	versions []modelVersion
	open     []*modelTx
	now      int
	horizon  int
	begun    int
	log      []modelRecord
	synced   int // bytes
	undone   []*modelBackup
	taken    int
}

// modelBackup is a backup: what stands ahead of its versions (until it is told),
// those that are left, and the sum.
type modelBackup struct {
	number, needs, since, upto, floor int
	head                              string
	entries                           []string
	sum                               string
}

// modelRecord is a commit's, if it has versions, else a horizon's.
type modelRecord struct {
	moment   int
	versions []modelVersion
	bytes    string
}

type modelVersion struct {
	key, value string
	moment     int
	deleted    bool
}

type modelTx struct {
	number, sees int
	writes       []modelVersion // the last one of a key counts
}

func (m *model) find(number int) *modelTx {
	for _, tx := range m.open {
		if tx.number == number {
			return tx
		}
	}
	return nil
}

func (m *model) end(number int) {
	m.open = slices.DeleteFunc(m.open, func(tx *modelTx) bool { return tx.number == number })
}

func (m *model) begin() (int, api.Errno) {
	if len(m.open) == api.MaxOpen {
		return 0, api.ErrFull
	}
	m.begun++
	m.open = append(m.open, &modelTx{number: m.begun, sees: m.now})
	return m.begun, api.OK
}

func (m *model) value(tx *modelTx, key string) (string, bool) {
	for i := len(tx.writes) - 1; i >= 0; i-- {
		if v := tx.writes[i]; v.key == key {
			return v.value, !v.deleted
		}
	}
	return m.valueAt(tx.sees, key)
}

func (m *model) valueAt(moment int, key string) (string, bool) {
	for i := len(m.versions) - 1; i >= 0; i-- {
		if v := m.versions[i]; v.key == key && v.moment <= moment {
			return v.value, !v.deleted
		}
	}
	return "", false
}

func (m *model) get(number int, key string) (string, api.Errno) {
	tx := m.find(number)
	if tx == nil {
		return "", api.ErrTx
	}
	if modelNoKey(key) {
		return "", api.ErrArg
	}
	value, there := m.value(tx, key)
	if !there {
		return "", api.ErrNone
	}
	return value, api.OK
}

func (m *model) scan(number int, from, to string, keys []string) ([]api.Pair, api.Errno) {
	tx := m.find(number)
	if tx == nil {
		return nil, api.ErrTx
	}
	var pairs []api.Pair
	for _, key := range keys {
		if value, there := m.value(tx, key); there && key >= from && key < to {
			pairs = append(pairs, api.Pair{Key: key, Value: value})
		}
	}
	return pairs, api.OK
}

func (m *model) write(number int, v modelVersion) api.Errno {
	tx := m.find(number)
	if tx == nil {
		return api.ErrTx
	}
	if modelNoKey(v.key) || len(v.value) > api.MaxValue {
		return api.ErrArg
	}
	var others []string
	for _, w := range tx.writes {
		if w.key != v.key && !slices.Contains(others, w.key) {
			others = append(others, w.key)
		}
	}
	if len(others) >= api.MaxWrites {
		return api.ErrFull
	}
	tx.writes = append(tx.writes, v)
	return api.OK
}

func (m *model) commit(number int) (int, api.Errno) {
	tx := m.find(number)
	if tx == nil {
		return 0, api.ErrTx
	}
	if len(tx.writes) == 0 {
		m.end(number)
		return tx.sees, api.OK
	}
	for _, w := range tx.writes {
		for _, v := range m.versions {
			if v.key == w.key && v.moment > tx.sees {
				m.end(number)
				return 0, api.ErrConflict
			}
		}
	}
	if m.now == api.MaxMoments {
		return 0, api.ErrFull
	}
	record := modelRecord{moment: m.now + 1}
	for i, w := range tx.writes {
		sameKey := func(later modelVersion) bool { return later.key == w.key }
		if !slices.ContainsFunc(tx.writes[i+1:], sameKey) {
			w.moment = record.moment
			record.versions = append(record.versions, w)
		}
	}
	m.do(record)
	m.end(number)
	return m.now, api.OK
}

func (m *model) do(r modelRecord) {
	r.bytes = r.written()
	m.log = append(m.log, r)
	if len(r.versions) == 0 {
		m.horizon = r.moment
		return
	}
	m.now = r.moment
	m.versions = append(m.versions, r.versions...)
}

func (m *model) files() []string {
	var records []string
	for _, r := range m.log {
		records = append(records, r.bytes)
	}
	return logOf(records...)
}

func (r modelRecord) written() string {
	if len(r.versions) == 0 {
		return horizon(r.moment)
	}
	slices.SortFunc(r.versions, func(a, b modelVersion) int { return cmp.Compare(a.key, b.key) })
	var keysAndValues []string
	for _, v := range r.versions {
		if v.deleted {
			v.value = gone
		}
		keysAndValues = append(keysAndValues, v.key, v.value)
	}
	return commit(r.moment, keysAndValues...)
}

// recovered is the model of a store of which a crash has left so many bytes.
func (m *model) recovered(left int) *model {
	again := &model{}
	for i, r := range m.log {
		size := len(r.bytes)
		if i%api.SegRecords == 0 {
			size += len(opening(0))
		}
		if again.synced+size > left {
			break
		}
		again.do(r)
		again.synced += size
	}
	return again
}

func (m *model) abort(number int) api.Errno {
	if m.find(number) == nil {
		return api.ErrTx
	}
	m.end(number)
	return api.OK
}

func (m *model) asOf(moment int, key string) (string, api.Errno) {
	switch {
	case modelNoKey(key):
		return "", api.ErrArg
	case moment < m.horizon:
		return "", api.ErrNotRetained
	case moment > m.now:
		return "", api.ErrFuture
	}
	value, there := m.valueAt(moment, key)
	if !there {
		return "", api.ErrNone
	}
	return value, api.OK
}

func (m *model) rangeAt(moment int, from, to string, keys []string) ([]api.Pair, api.Errno) {
	if moment < m.horizon {
		return nil, api.ErrNotRetained
	}
	if moment > m.now {
		return nil, api.ErrFuture
	}
	var pairs []api.Pair
	for _, key := range keys {
		if value, there := m.valueAt(moment, key); there && key >= from && key < to {
			pairs = append(pairs, api.Pair{Key: key, Value: value})
		}
	}
	return pairs, api.OK
}

func (m *model) retain(moment int) api.Errno {
	if moment < m.horizon || moment > m.now {
		return api.ErrArg
	}
	for _, tx := range m.open {
		if tx.sees < moment {
			return api.ErrPinned
		}
	}
	for _, b := range m.undone {
		if b.needs < moment {
			return api.ErrPinned
		}
	}
	if moment != m.horizon {
		m.do(modelRecord{moment: moment})
	}
	return api.OK
}

func (m *model) backup(since int) (int, api.Errno) {
	if since < 0 || since != 0 && (since < m.horizon || since > m.now) {
		return 0, api.ErrArg
	}
	if len(m.undone) == api.MaxBackups {
		return 0, api.ErrFull
	}
	m.taken++
	b := &modelBackup{number: m.taken, needs: since, since: since, upto: m.now, floor: m.horizon}
	if since == 0 {
		b.needs = m.horizon
	}
	m.sort()
	for _, v := range m.versions {
		if v.deleted {
			v.value = gone
		}
		if v.moment > since {
			b.entries = append(b.entries, entry(v.key, v.moment, v.value))
		}
	}
	b.head = head(since, m.now, m.horizon, len(b.entries))
	b.sum = sumOf(b.head + strings.Join(b.entries, ""))
	m.undone = append(m.undone, b)
	return m.taken, api.OK
}

func (m *model) step(number int, most int) (string, bool, api.Errno) {
	for i, b := range m.undone {
		if b.number != number {
			continue
		}
		piece := b.head
		b.head = ""
		for told := 0; told < most && len(b.entries) > 0; told++ {
			piece += b.entries[0]
			b.entries = b.entries[1:]
		}
		if len(b.entries) > 0 {
			return piece, false, api.OK
		}
		m.undone = slices.Delete(m.undone, i, i+1)
		return piece + b.sum, true, api.OK
	}
	return "", false, api.ErrBackup
}

// sort brings the versions into order by keys, of one key by moments.
func (m *model) sort() {
	slices.SortFunc(m.versions, func(a, b modelVersion) int {
		return cmp.Or(cmp.Compare(a.key, b.key), cmp.Compare(a.moment, b.moment))
	})
}

// vacuum looks for the first version that may go from the beginning each time.
func (m *model) vacuum(most int) int {
	m.sort()
	went := 0
	for went < most {
		next := m.firstThatMayGo()
		if next < 0 {
			break
		}
		m.versions = slices.Delete(m.versions, next, next+1)
		went++
	}
	return went
}

// firstThatMayGo is P10's own words, on versions by keys, of one key by moments.
func (m *model) firstThatMayGo() int {
	for i, v := range m.versions {
		first := i == 0 || m.versions[i-1].key != v.key
		if v.deleted && v.moment <= m.horizon && first {
			return i
		}
		if i+1 == len(m.versions) {
			break
		}
		if later := m.versions[i+1]; later.key == v.key && later.moment <= m.horizon {
			return i
		}
	}
	return -1
}

func modelNoKey(key string) bool {
	return key == "" || len(key) > api.MaxKey || strings.Trim(key, "abcdefghijklmnopqrstuvwxyz0123456789") != ""
}

// dice gives numbers that look thrown but are the same in every run.
type dice uint64

func (d *dice) below(n int) int {
	*d = *d*6364136223846793005 + 1442695040888963407
	return int(uint64(*d) >> 33 % uint64(n))
}

// walk makes calls on a store and on the model, and holds their answers against each other.
type walk struct {
	t    *testing.T
	s    *palimpsest.Store
	m    *model
	d    dice
	keys []string // in order
	safe bool     // crashes leave all

	truth  [][]api.Pair      // what the model told at each moment when it was now
	pieces map[int]string    // of backups that are not done
	chain  []*modelBackup    // done, each from the last one's upto on
	dumps  []string          // of the chain
	copies map[api.Errno]int // how often Restore answered what
}

func newWalk(t *testing.T, seed int, keys int) *walk {
	w := &walk{t: t, s: palimpsest.New(), m: &model{}, d: dice(seed)}
	w.truth, w.pieces, w.copies = [][]api.Pair{nil}, map[int]string{}, map[api.Errno]int{}
	for i := range keys {
		w.keys = append(w.keys, "k"+strconv.Itoa(i))
	}
	slices.Sort(w.keys)
	return w
}

func (w *walk) key() string {
	if w.d.below(20) == 0 {
		return noKeys[w.d.below(len(noKeys))]
	}
	return w.keys[w.d.below(len(w.keys))]
}

func (w *walk) number() int {
	if n := len(w.m.open); n > 0 && w.d.below(15) > 0 {
		return w.m.open[w.d.below(n)].number
	}
	return w.d.below(w.m.begun+3) - 1
}

// moment is one from a little ahead of the horizon to a little above now.
func (w *walk) moment() int {
	return w.m.horizon - 2 + w.d.below(w.m.now-w.m.horizon+5)
}

func (w *walk) step() {
	switch tx := w.number(); w.d.below(20) {
	case 0, 1:
		want, e := w.m.begin()
		wantBegin(w.t, w.s, want, e)
	case 2:
		w.commit(tx)
	case 3:
		if w.d.below(4) == 0 {
			wantAbort(w.t, w.s, tx, w.m.abort(tx))
		}
	case 4, 5, 6, 7:
		key, value := w.key(), strings.Repeat("v", w.d.below(api.MaxValue+2))
		wantPut(w.t, w.s, tx, key, value, w.m.write(tx, modelVersion{key: key, value: value}))
	case 8:
		key := w.key()
		wantDelete(w.t, w.s, tx, key, w.m.write(tx, modelVersion{key: key, deleted: true}))
	case 9, 10:
		key := w.key()
		want, e := w.m.get(tx, key)
		wantGet(w.t, w.s, tx, key, want, e)
	case 11:
		w.scan(tx, w.key(), w.key())
	case 12:
		moment, key := w.moment(), w.key()
		want, e := w.m.asOf(moment, key)
		wantAsOf(w.t, w.s, moment, key, want, e)
	case 13:
		w.rangeAt(w.moment(), w.key(), w.key())
	case 14:
		if moment := w.moment(); w.d.below(4) == 0 {
			wantRetain(w.t, w.s, moment, w.m.retain(moment))
		}
	case 15:
		most := w.d.below(5) - 1
		wantVacuum(w.t, w.s, most, w.m.vacuum(most), len(w.m.versions))
	case 16:
		if w.d.below(10) == 0 {
			w.crash()
		}
	case 17:
		if w.d.below(3) == 0 {
			w.backup()
		}
	case 18:
		w.stepBackup()
	case 19:
		if w.d.below(4) == 0 {
			w.restore()
		}
	}
	wantNow(w.t, w.s, w.m.now)
	wantStored(w.t, w.s, len(w.m.versions))
}

func (w *walk) commit(tx int) {
	want, e := w.m.commit(tx)
	wantCommit(w.t, w.s, tx, want, e)
	if w.m.now == len(w.truth) {
		pairs, _ := w.m.rangeAt(w.m.now, "", everything, w.keys)
		w.truth = append(w.truth, pairs)
	}
}

// crash holds the logs against each other, and goes on with what a crash has
// left of them, or makes sure that it leaves all.
func (w *walk) crash() {
	files := w.m.files()
	size := sizeOf(files)
	wantFiles(w.t, w.s, files)
	keep := w.d.below(size-w.m.synced+20) - 10
	if w.safe {
		keep = size
	}
	left := min(w.m.synced+max(0, keep), size)
	wantCrash(w.t, w.s, keep, firstBytes(files, left))
	if w.d.below(3) > 0 {
		w.s.Sync()
		w.m.synced = size
		return
	}
	s, e := palimpsest.Recover(w.s.Crash(keep))
	if s == nil || e != api.OK {
		w.t.Fatalf("Recover of what a crash left = %d", e)
	}
	w.s, w.m = s, w.m.recovered(left)
	wantFiles(w.t, w.s, w.m.files())
	w.forget()
}

// forget leaves those dumps out whose moments the store has lost: what it writes
// at them now is something else.
func (w *walk) forget() {
	w.truth = w.truth[:w.m.now+1]
	clear(w.pieces)
	for len(w.chain) > 0 && w.chain[len(w.chain)-1].upto > w.m.now {
		w.chain, w.dumps = w.chain[:len(w.chain)-1], w.dumps[:len(w.dumps)-1]
	}
}

// backup begins one, often such that it can follow the last one that is done.
func (w *walk) backup() {
	since := w.moment()
	if n := len(w.chain); n > 0 && w.d.below(3) > 0 {
		since = w.chain[n-1].upto
	} else if w.d.below(3) == 0 {
		since = 0
	}
	want, e := w.m.backup(since)
	wantBackup(w.t, w.s, since, want, e)
}

func (w *walk) stepBackup() {
	most, number := w.d.below(12)-2, w.m.taken-w.d.below(5)
	var b *modelBackup
	if n := len(w.m.undone); n > 0 && w.d.below(8) > 0 {
		b = w.m.undone[w.d.below(n)]
		number = b.number
	}
	want, done, e := w.m.step(number, most)
	if e == api.ErrBackup {
		wantNoBackup(w.t, w.s, number)
		return
	}
	wantStep(w.t, w.s, number, most, want, done)
	w.pieces[number] += want
	if done && b != nil {
		w.keep(b)
	}
}

// keep takes a dump that is done as the next one of the chain, or the first.
func (w *walk) keep(b *modelBackup) {
	switch {
	case b.since == 0:
		w.chain, w.dumps = []*modelBackup{b}, []string{w.pieces[b.number]}
	case len(w.chain) > 0 && w.chain[len(w.chain)-1].upto == b.since:
		w.chain, w.dumps = append(w.chain, b), append(w.dumps, w.pieces[b.number])
	}
	delete(w.pieces, b.number)
}

// restore makes a copy of the chain and some of the log's files, and holds that
// it tells at each moment what the store told when it was now.
func (w *walk) restore() {
	files := w.m.files()
	from := w.d.below(len(files) + 1)
	until := from + w.d.below(len(files)-from+1)
	if w.d.below(2) == 0 {
		until = len(files)
	}
	files = files[from:until]
	moment := w.d.below(w.m.now+6) - 3
	want := w.restorable(from, until, moment)
	w.copies[want]++
	if want != api.OK {
		wantNoCopy(w.t, w.dumps, files, moment, want)
		return
	}
	c := wantRestored(w.t, w.dumps, files, moment)
	floor := w.chain[0].floor
	wantSpan(w.t, c, floor, moment)
	wantHorizon(w.t, c, floor)
	for at := floor; at <= moment; at++ {
		if got, e := c.Range(at, "", everything); !slices.Equal(got, w.truth[at]) || e != api.OK {
			w.t.Errorf("a copy tells %q at %d, the store told %q", got, at, w.truth[at])
		}
	}
	wantNoRange(w.t, c, moment+1, api.ErrFuture)
}

// restorable tells P16's answer for the chain and files of the model's log.
func (w *walk) restorable(from, until, moment int) api.Errno {
	first, last := 0, 0 // commits in the files
	for i, r := range w.m.log {
		if i/api.SegRecords < from || i/api.SegRecords >= until || len(r.versions) == 0 {
			continue
		}
		if first == 0 {
			first = r.moment
		}
		last = r.moment
	}
	if len(w.chain) == 0 {
		return api.ErrGap
	}
	upto := w.chain[len(w.chain)-1].upto
	switch {
	case first > upto+1:
		return api.ErrGap
	case moment < w.chain[0].floor:
		return api.ErrNotRetained
	case moment > upto && moment > last:
		return api.ErrFuture
	}
	return api.OK
}

func (w *walk) rangeAt(moment int, from, to string) {
	want, wantErr := w.m.rangeAt(moment, from, to, w.keys)
	if got, e := w.s.Range(moment, from, to); !slices.Equal(got, want) || e != wantErr {
		w.t.Errorf("Range(%d, %q, %q) = %q, %d, want %q, %d", moment, from, to, got, e, want, wantErr)
	}
}

// end asks for all that can be asked for, vacuums all that may go, and asks again.
func (w *walk) end() {
	wantFiles(w.t, w.s, w.m.files())
	for range 2 {
		for moment := w.m.horizon - 1; moment <= w.m.now+1; moment++ {
			w.rangeAt(moment, "", everything)
		}
		for _, tx := range w.m.open {
			w.scan(tx.number, "", everything)
		}
		wantVacuum(w.t, w.s, len(w.m.versions)+1, w.m.vacuum(len(w.m.versions)+1), len(w.m.versions))
	}
}

func (w *walk) scan(tx int, from, to string) {
	want, wantErr := w.m.scan(tx, from, to, w.keys)
	if got, e := w.s.Scan(tx, from, to); !slices.Equal(got, want) || e != wantErr {
		w.t.Errorf("Scan(%d, %q, %q) = %q, %d, want %q, %d", tx, from, to, got, e, want, wantErr)
	}
}

func TestStoreAnswersAsTheModel(t *testing.T) {
	copies := map[api.Errno]int{}
	for seed := range 300 {
		w := newWalk(t, seed, []int{2, 5, 15, 40}[seed%4])
		for range 1500 {
			w.step()
		}
		w.end()
		if t.Failed() {
			t.Fatalf("the walk of the seed %d went wrong", seed)
		}
		for e, count := range w.copies {
			copies[e] += count
		}
	}
	for _, e := range []api.Errno{api.OK, api.ErrGap, api.ErrNotRetained, api.ErrFuture} {
		if copies[e] < 100 {
			t.Errorf("Restore answered %d only %d times: too few to tell much", e, copies[e])
		}
	}
}

// hasten commits until it is a moment, without asking for anything.
func (w *walk) hasten(moment int) {
	for w.m.now < moment && !w.t.Failed() {
		tx, _ := w.m.begin()
		wantBegin(w.t, w.s, tx, api.OK)
		key, value := w.keys[w.d.below(len(w.keys))], strconv.Itoa(w.m.now)
		wantPut(w.t, w.s, tx, key, value, w.m.write(tx, modelVersion{key: key, value: value}))
		w.commit(tx)
	}
}

func TestStoreAnswersAsTheModelBeyondMaxMoments(t *testing.T) {
	w := newWalk(t, 7, 80)
	w.safe = true
	w.hasten(api.MaxMoments - 200)
	for steps := 0; w.m.now < api.MaxMoments && steps < 100*api.MaxMoments && !t.Failed(); steps++ {
		w.step()
	}
	wantNow(t, w.s, api.MaxMoments)
	for range 500 {
		w.step()
	}
}
