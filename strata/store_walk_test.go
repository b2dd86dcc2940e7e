package strata_test

import (
	"maps"
	"math/rand"
	"slices"
	"strings"
	"testing"

	"strata/api"
	"strata/strata"
)

// walk does things at random on a disk and the stores on it, and holds what they answer against the promises.
type walk struct {
	*rand.Rand
	t     *testing.T
	d     *strata.Disk
	s     *strata.Store // the last one that Open gave
	old   *strata.Store // one that is not open any more
	h     *history
	quota int
	bytes int // of all keys and values that were ever handed in
	ops   int
	open  bool
	stuck bool
	crash bool // whether there was a crash since a store was opened

	policy int                       // of the store
	steady bool                      // whether all stores get the same policy
	same   bool                      // whether all stores on the disk had this policy
	snaps  map[int]map[string]string // the maps that live snapshots keep
	taken  int
	had    given // the numbers of the store's tables, so far as they were told
	bent   bool  // whether Merge may have taken the highest level away, by the policy Lazy, since the tables were brought into shape
}

func (w *walk) dead() bool {
	_, e := w.d.Names()
	return e == api.ErrDead
}

// mayBeFull tells whether the quota is so small that a change may be refused (P6).
func (w *walk) mayBeFull() bool { return w.quota < 8192+64*(w.bytes+64*w.ops) }

// roomy tells whether there is so much room that no change was ever refused.
func (w *walk) roomy() bool { return w.quota == api.MaxQuota || !w.mayBeFull() }

// expect checks an answer of a call of the store: the error that is named first, or OK, or what came of the call itself.
func (w *walk) expect(what string, got api.Errno, wasDead bool, writes bool, right bool) {
	w.t.Helper()
	w.expectOr(api.ErrArg, what, got, wasDead, writes, right)
}

// expectOr is expect with another error for what is wrong.
func (w *walk) expectOr(wrong api.Errno, what string, got api.Errno, wasDead bool, writes bool, right bool) {
	w.t.Helper()
	want := api.OK
	switch {
	case !w.open:
		want = api.ErrClosed
	case wasDead:
		want = api.ErrDead
	case writes && w.stuck:
		want = api.ErrStuck
	case !right:
		want = wrong
	case writes && w.dead():
		want = api.ErrDead
	case writes && got == api.ErrFull && w.mayBeFull():
		want = api.ErrFull
	}
	if got != want {
		w.t.Fatalf("%s = %d, want %d", what, got, want)
	}
}

func (w *walk) text(most int) string {
	text := make([]byte, w.Intn(most+1))
	for i := range text {
		text[i] = "ab\x00\xff"[w.Intn(4)]
	}
	return string(text)
}

func (w *walk) key() string {
	if w.Intn(60) == 0 {
		return []string{"", strings.Repeat("k", 17)}[w.Intn(2)]
	}
	if w.Intn(20) == 0 {
		return strings.Repeat("k", 16)
	}
	return "ab"[w.Intn(2):] + w.text(2)
}

func (w *walk) value() string {
	if w.Intn(60) == 0 {
		return strings.Repeat("v", 65)
	}
	if w.Intn(20) == 0 {
		return strings.Repeat("v", 64)
	}
	return w.text(9)
}

func rightKey(key string) bool { return len(key) > 0 && len(key) <= 16 }

func rightBatch(ops []api.Op) bool {
	wrong := slices.ContainsFunc(ops, func(op api.Op) bool {
		return !rightKey(op.Key) || !op.Delete && len(op.Value) > 64
	})
	return len(ops) > 0 && len(ops) <= 8 && !wrong
}

func (w *walk) batch() {
	ops := make([]api.Op, w.Intn(5))
	if w.Intn(20) == 0 {
		ops = make([]api.Op, 7+w.Intn(3))
	}
	for i := range ops {
		ops[i] = api.Op{Key: w.key(), Value: w.value(), Delete: w.Intn(3) == 0}
		w.bytes += len(ops[i].Key) + len(ops[i].Value)
	}
	w.ops += len(ops)
	wasDead := w.dead()
	var e api.Errno
	switch {
	case len(ops) == 1 && ops[0].Delete:
		e = w.s.Delete(ops[0].Key)
	case len(ops) == 1:
		e = w.s.Put(ops[0].Key, ops[0].Value)
	default:
		e = w.s.Batch(ops)
	}
	w.expect("Batch", e, wasDead, true, rightBatch(ops))
	switch {
	case e == api.ErrFull:
		w.stuck = true
	case e == api.OK, e == api.ErrDead && !wasDead:
		w.h.did(ops)
	}
	if e == api.OK {
		w.shaped()
	}
}

// shaped checks the shape behind a call that brings the tables into it.
func (w *walk) shaped() {
	w.t.Helper()
	if w.roomy() {
		inShape(w.t, w.s, w.policy)
	}
	w.bent = false
	w.had.see(tables(w.t, w.s))
}

func (w *walk) flush() {
	wasDead := w.dead()
	e := w.s.Flush()
	w.expect("Flush", e, wasDead, true, true)
	if e != api.OK {
		return
	}
	w.shaped()
	fewFiles(w.t, w.d, w.s)
	w.h.is(w.t, w.s)
}

func (w *walk) compact() {
	wasDead := w.dead()
	e := w.s.Compact()
	w.expect("Compact", e, wasDead, true, true)
	if e != api.OK {
		return
	}
	w.had.see(tellsTables(w.t, w.s))
	if told := tables(w.t, w.s); len(told) > 1 {
		w.t.Fatalf("Tables = %v", told)
	}
	if len(w.snaps) == 0 {
		isSmall(w.t, w.d, w.s)
	}
	fewFiles(w.t, w.d, w.s)
	w.h.is(w.t, w.s)
}

// proposal draws numbers of tables, mostly of some that may be merged: from one index on and ahead of another. If they may not be, it tells no tables.
func (w *walk) proposal(told []api.Table) (numbers []int, from int, to int) {
	if len(told) == 0 || w.Intn(8) == 0 {
		return [][]int{nil, {-1}, {0}, {1 << 40}}[w.Intn(4)], 0, 0
	}
	from = w.Intn(len(told))
	to = from + 1 + w.Intn(len(told)-from)
	numbers = numbersOf(told[from:to])
	w.Shuffle(len(numbers), func(i, j int) { numbers[i], numbers[j] = numbers[j], numbers[i] })
	switch n := w.Intn(20); {
	case n == 0:
		return append(numbers, numbers[w.Intn(len(numbers))]), 0, 0
	case n == 1:
		return append(numbers, -1), 0, 0
	case n == 2 && to+1 < len(told):
		return append(numbers, told[to+1].Number), 0, 0
	}
	return numbers, from, to
}

func (w *walk) merge() {
	told, _ := w.s.Tables()
	numbers, from, to := w.proposal(told)
	want := slices.Clone(numbers)
	wasDead := w.dead()
	e := w.s.Merge(numbers)
	w.expect("Merge", e, wasDead, true, to > 0)
	if !slices.Equal(numbers, want) {
		w.t.Fatalf("the proposal was %v, and is %v", want, numbers)
	}
	w.bent = w.bent || w.policy == api.Lazy
	if e != api.OK {
		return
	}
	after := tellsTables(w.t, w.s)
	isMerged(w.t, told, from, to, after, w.had)
	w.had.see(after)
	fewFiles(w.t, w.d, w.s)
	w.h.is(w.t, w.s)
}

func (w *walk) snapshot() {
	id, e := w.s.Snapshot()
	w.expectOr(api.ErrSnap, "Snapshot", e, w.dead(), false, len(w.snaps) < api.MaxSnaps)
	if e != api.OK {
		w.taken--
	}
	w.taken++
	if e != api.OK && id != 0 || e == api.OK && id != w.taken {
		w.t.Fatalf("Snapshot = %d, %d, behind %d others", id, e, w.taken-1)
	}
	if e == api.OK {
		w.snaps[id] = maps.Clone(w.h.now)
	}
}

func (w *walk) release() {
	id := w.id()
	_, live := w.snaps[id]
	e := w.s.Release(id)
	w.expectOr(api.ErrSnap, "Release", e, w.dead(), false, live)
	if e == api.OK {
		delete(w.snaps, id)
	}
}

// id is mostly the number of a live snapshot.
func (w *walk) id() int { return w.taken - w.Intn(api.MaxSnaps+3) + 1 }

func (w *walk) readAt() {
	id, key, lo, hi, limit := w.id(), w.key(), w.text(2), w.text(2), w.Intn(12)-1
	m, live := w.snaps[id]
	value, ok, e := w.s.GetAt(id, key)
	w.expectAt("GetAt", e, live, rightKey(key))
	want, there := m[key]
	if e != api.OK {
		want, there = "", false
	}
	if value != want || ok != there {
		w.t.Fatalf("GetAt(%d, %q) = %q, %v, want %q, %v", id, key, value, ok, want, there)
	}
	pairs, e := w.s.ScanAt(id, lo, hi, limit)
	w.expectAt("ScanAt", e, live, limit >= 0)
	all := part(m, lo, hi, limit)
	if e != api.OK {
		all = nil
	}
	if !slices.Equal(flat(pairs), all) {
		w.t.Fatalf("ScanAt(%d, %q, %q, %d) = %q, want %q", id, lo, hi, limit, pairs, all)
	}
}

func (w *walk) expectAt(what string, e api.Errno, live bool, right bool) {
	w.t.Helper()
	if live {
		w.expect(what, e, w.dead(), false, right)
	} else {
		w.expectOr(api.ErrSnap, what, e, w.dead(), false, false)
	}
}

func (w *walk) tables() {
	told, e := w.s.Tables()
	w.expect("Tables", e, w.dead(), false, true)
	if e != api.OK && told != nil {
		w.t.Fatalf("Tables = %v, %d", told, e)
	}
	if e == api.OK {
		tellsTables(w.t, w.s)
	}
}

func (w *walk) get() {
	key := w.key()
	value, ok, e := w.s.Get(key)
	w.expect("Get", e, w.dead(), false, rightKey(key))
	want, there := w.h.now[key]
	if e != api.OK {
		want, there = "", false
	}
	if value != want || ok != there {
		w.t.Fatalf("Get(%q) = %q, %v, want %q, %v", key, value, ok, want, there)
	}
}

func (w *walk) scan() {
	lo, hi, limit := w.text(2), w.text(2), w.Intn(12)-1
	pairs, e := w.s.Scan(lo, hi, limit)
	w.expect("Scan", e, w.dead(), false, limit >= 0)
	want := part(w.h.now, lo, hi, limit)
	if e != api.OK {
		want = nil
	}
	if !slices.Equal(flat(pairs), want) {
		w.t.Fatalf("Scan(%q, %q, %d) = %q, want %q", lo, hi, limit, pairs, want)
	}
}

func (w *walk) sync() {
	wasDead := w.dead()
	e := w.s.Sync()
	w.expect("Sync", e, wasDead, true, true)
	if e == api.OK {
		w.h.synced()
	}
}

func (w *walk) reopen() {
	policy := w.Intn(5) - 1
	if w.steady {
		policy = w.policy
	}
	s, e := strata.Open(w.d, policy)
	if policy < 0 || policy > 2 {
		if s != nil || e != api.ErrArg {
			w.t.Fatalf("Open(d, %d) = %v, %d", policy, s, e)
		}
		return
	}
	w.open = false
	if e != api.OK {
		if s != nil || e != api.ErrDead && e != api.ErrFull || (e == api.ErrDead) != w.dead() || e == api.ErrFull && !w.mayBeFull() {
			w.t.Fatalf("Open = %v, %d", s, e)
		}
		return
	}
	w.same = w.same && policy == w.policy || w.s == nil
	w.s, w.old, w.open, w.stuck = s, w.s, true, false
	w.policy, w.snaps, w.taken, w.had = policy, map[int]map[string]string{}, 0, given{}
	w.had.see(tellsTables(w.t, s))
	if w.same && w.roomy() && !w.bent {
		inShape(w.t, s, policy)
	}
	fewFiles(w.t, w.d, s)
	if w.crash {
		w.h.came(w.t, s)
		w.crash = false
	}
	w.h.is(w.t, s)
	w.h.synced()
}

func (w *walk) crashes() {
	keep := make([]int, w.Intn(5))
	for i := range keep {
		keep[i] = w.Intn(60) - 5
	}
	w.d.Crash(keep)
	w.open, w.crash = false, true
	for range 3 {
		if !w.open {
			w.d.Fuse(w.Intn(8) - 2)
			w.reopen()
		}
		if w.dead() {
			w.d.Crash(keep)
		}
	}
}

func (w *walk) step() {
	switch n := w.Intn(80); {
	case n < 18:
		w.batch()
	case n < 24:
		w.get()
	case n < 28:
		w.scan()
	case n < 32:
		w.sync()
	case n < 34:
		w.reopen()
	case n < 36:
		w.d.Fuse(w.Intn(20) - 1)
	case n < 38 || w.dead():
		w.crashes()
	case n < 50:
		w.flush()
	case n < 55:
		w.snapshot()
	case n < 58:
		w.release()
	case n < 67:
		w.readAt()
	case n < 70:
		w.compact()
	case n < 77:
		w.merge()
	default:
		w.tables()
	}
	if w.old != nil && w.old != w.s {
		if e := w.old.Sync(); e != api.ErrClosed {
			w.t.Fatalf("Sync of a store that is not open any more = %d", e)
		}
	}
}

func newWalk(t *testing.T, r *rand.Rand, quota int) *walk {
	return &walk{Rand: r, t: t, d: newDisk(t, quota), h: newHistory(), quota: quota, steady: r.Intn(2) == 0, policy: r.Intn(3)}
}

// P6 to P15 together.
func TestAStoreKeepsItsPromises(t *testing.T) {
	for seed := range int64(1200) {
		r := rand.New(rand.NewSource(seed))
		w := newWalk(t, r, []int{api.MaxQuota, 8192, 2000, r.Intn(700)}[r.Intn(4)])
		for range 400 {
			w.step()
		}
	}
}

// P6: with a quota as great as it says no change is ever refused, however often the disk crashes.
func TestTheQuotaThatIsEnough(t *testing.T) {
	for seed := range int64(60) {
		count := 20 + int(seed)*3
		first := newWalk(t, rand.New(rand.NewSource(seed)), api.MaxQuota)
		for range count {
			first.step()
		}
		quota := 8192 + 64*(first.bytes+64*first.ops)
		if quota > api.MaxQuota {
			continue
		}
		again := newWalk(t, rand.New(rand.NewSource(seed)), quota)
		for range count {
			again.step()
		}
	}
}
