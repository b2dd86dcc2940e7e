package strata_test

import (
	"fmt"
	"maps"
	"math"
	"slices"
	"strings"
	"testing"

	"strata/api"
	"strata/strata"
)

// history is what P15 says of a disk: the maps that were there behind each of its batches, and how many of these are safe.
type history struct {
	now    map[string]string
	states []string
	safe   int
}

func newHistory() *history {
	return &history{now: map[string]string{}, states: []string{""}}
}

func (h *history) clone() *history {
	return &history{now: maps.Clone(h.now), states: slices.Clone(h.states), safe: h.safe}
}

func (h *history) did(ops []api.Op) {
	for _, op := range ops {
		if op.Delete {
			delete(h.now, op.Key)
		} else {
			h.now[op.Key] = op.Value
		}
	}
	h.states = append(h.states, plainText(h.now))
}

// synced says that all batches are safe.
func (h *history) synced() { h.safe = len(h.states) - 1 }

// came checks the map that a store has behind a crash. From then on it is the last one that ever was, and safe.
func (h *history) came(t *testing.T, s *strata.Store) {
	t.Helper()
	pairs, e := s.Scan("", "", math.MaxInt)
	answers(t, "Scan", e, api.OK)
	now := map[string]string{}
	for _, p := range pairs {
		now[p.Key] = p.Value
	}
	n := len(h.states) - 1
	for n >= h.safe && h.states[n] != plainText(now) {
		n--
	}
	if n < h.safe {
		t.Fatalf("behind a crash the map is %s, and may be one of %q", plainText(now), h.states[h.safe:])
	}
	h.now, h.states = now, h.states[:n+1]
	h.synced()
}

// is checks the map of a store when no crash was between.
func (h *history) is(t *testing.T, s *strata.Store) {
	t.Helper()
	pairs, e := s.Scan("", "", math.MaxInt)
	var want []string
	for _, key := range slices.Sorted(maps.Keys(h.now)) {
		want = append(want, key, h.now[key])
	}
	if !slices.Equal(flat(pairs), want) || e != api.OK {
		t.Fatalf("Scan = %q, %d, want %q", pairs, e, want)
	}
}

func plainText(m map[string]string) string {
	all := ""
	for _, key := range slices.Sorted(maps.Keys(m)) {
		all += fmt.Sprintf("%q %q ", key, m[key])
	}
	return all
}

// planned is a step of a plan: a batch, or with none: Flush, Open or Sync.
type planned struct {
	ops   []api.Op
	flush bool
	open  bool
}

func plan() []planned {
	long := put(strings.Repeat("k", 16), strings.Repeat("v", 64))
	return []planned{
		{ops: []api.Op{put("a", "1")}},
		{ops: []api.Op{put("b", "2"), put("a", "3"), gone("c")}},
		{},
		{ops: []api.Op{gone("a"), put("d", "")}},
		{open: true},
		{ops: []api.Op{put("e", "5"), gone("b"), put("e", "6")}},
		{ops: slices.Repeat([]api.Op{gone("d"), long}, 4)},
		{},
		{open: true},
		{ops: []api.Op{put("a", "7"), put("f", "8")}},
		{ops: []api.Op{put("a", "9"), gone("e"), put("g", "10")}},
		{ops: []api.Op{gone("f"), put("d", "11"), put("h", "12")}},
	}
}

// flushed is the plan with flushes between: so many that tables are merged.
func flushed() []planned {
	var steps []planned
	for i, step := range slices.Concat(plan(), plan()) {
		steps = append(steps, step)
		if step.ops != nil && i%5 != 4 {
			steps = append(steps, planned{flush: true})
		}
	}
	return append(steps, planned{ops: []api.Op{put("d", "13"), gone("a")}})
}

// follow does a plan on a new disk of which the fuse is n changes long, till it is done or the disk dies.
func follow(t *testing.T, steps []planned, policy int, n int) (*strata.Disk, *history, bool) {
	t.Helper()
	d, h := newDisk(t, api.MaxQuota), newHistory()
	d.Fuse(n)
	s, e := strata.Open(d, policy)
	for _, step := range steps {
		if e != api.OK {
			break
		}
		switch {
		case step.open:
			if s, e = strata.Open(d, policy); e == api.OK {
				h.is(t, s)
				h.synced()
			}
		case step.flush:
			if e = s.Flush(); e == api.OK {
				h.is(t, s)
			}
		case step.ops == nil:
			if e = s.Sync(); e == api.OK {
				h.synced()
			}
		default:
			e = s.Batch(step.ops)
			h.did(step.ops)
		}
	}
	if e != api.OK && e != api.ErrDead {
		t.Fatalf("a step of the plan = %d", e)
	}
	return d, h, e == api.OK
}

// keeps are ways to crash: none, all and each number of the bytes that are not safe, of one file and of all.
func keeps(most int) [][]int {
	all := [][]int{nil, slices.Repeat([]int{math.MaxInt}, 9)}
	for n := 1; n < most; n++ {
		all = append(all, []int{n}, []int{0, n}, slices.Repeat([]int{n}, 9))
	}
	return all
}

// crashes are some ways to crash: none, all and some of the bytes that are not safe, of one file and of all.
func crashes() [][]int {
	all := keeps(1)
	for _, n := range []int{1, 9, 30} {
		all = append(all, slices.Repeat([]int{n}, 9))
		for i := range 4 {
			all = append(all, append(make([]int, i), n))
		}
	}
	return all
}

// opened opens a store behind a crash, through all deaths of the disk that come from fuses of some lengths, in turn.
// No change was ever refused, and all stores had this policy: the tables are in shape.
func opened(t *testing.T, d *strata.Disk, h *history, policy int, fuses []int, keep []int) *strata.Store {
	t.Helper()
	for _, n := range append(slices.Clone(fuses), -1) {
		d.Fuse(n)
		s, e := strata.Open(d, policy)
		if e == api.OK {
			h.came(t, s)
			inShape(t, s, policy)
			fewFiles(t, d, s)
		} else if s != nil || e != api.ErrDead {
			t.Fatalf("Open behind a crash = %v, %d", s, e)
		}
		if n == -1 {
			return s
		}
		d.Crash(keep)
	}
	return nil
}

// goesOn checks that a store that came back takes more, and that what it lost does not come back.
func goesOn(t *testing.T, d *strata.Disk, h *history, s *strata.Store, policy int) {
	t.Helper()
	h.came(t, s)
	for i, op := range []api.Op{put("z", "26"), gone("a"), put("b", "27")} {
		does(t, s, op)
		h.did([]api.Op{op})
		inShape(t, s, policy)
		if i == 1 {
			flushes(t, s)
			inShape(t, s, policy)
			fewFiles(t, d, s)
		}
	}
	h.is(t, s)
	answers(t, "Sync", s.Sync(), api.OK)
	h.synced()
	d.Crash(nil)
	h.came(t, opened(t, d, h, policy, nil, nil))
	h.is(t, open(t, d, (policy+1)%3))
}

// P15

func TestTheDiskDiesAtEachOfItsChanges(t *testing.T) {
	steps := plan()
	for n := 0; ; n++ {
		whole := false
		for _, keep := range keeps(90) {
			var d *strata.Disk
			var h *history
			d, h, whole = follow(t, steps, n%3, n)
			d.Crash(keep)
			goesOn(t, d, h, opened(t, d, h, n%3, nil, nil), n%3)
		}
		if whole {
			break
		}
	}
}

func TestTheDiskDiesAtEachChangeOfOpen(t *testing.T) {
	steps := plan()
	for _, keep := range keeps(90) {
		for n := range 6 {
			for m := range 6 {
				for _, again := range [][]int{nil, {1, 1}, {0, 20}, {99, 99}} {
					d, h, _ := follow(t, steps, api.Tiered, -1)
					d.Crash(keep)
					goesOn(t, d, h, opened(t, d, h, api.Tiered, []int{n, m}, again), api.Tiered)
				}
			}
		}
	}
}

// P10 and P15

func TestTheDiskDiesAtEachOfItsChangesWhileThereAreFlushes(t *testing.T) {
	steps := flushed()
	for _, policy := range policies {
		for n := 0; ; n++ {
			whole := false
			for _, keep := range crashes() {
				var d *strata.Disk
				var h *history
				d, h, whole = follow(t, steps, policy, n)
				d.Crash(keep)
				goesOn(t, d, h, opened(t, d, h, policy, nil, nil), policy)
			}
			if whole {
				break
			}
		}
	}
}

// diesWithin does a call to a store on a copy of a disk that dies behind no change, behind one, and so on, till the call is done.
// Each time it looks at what comes back: through crashes of all kinds, and through other deaths when it is opened.
func diesWithin(t *testing.T, base *strata.Disk, before *history, policy int, ops []api.Op, call func(*strata.Store, *history) api.Errno) {
	t.Helper()
	for n := 0; ; n++ {
		e := api.ErrDead
		for _, keep := range crashes() {
			for _, fuses := range [][]int{nil, {0}, {1}, {2}, {3}, {4, 0}, {1, 1, 1}} {
				d, h := copied(t, base, api.MaxQuota), before.clone()
				s := open(t, d, policy)
				does(t, s, ops...)
				h.did(ops)
				d.Fuse(n)
				if e = call(s, h); e != api.OK && e != api.ErrDead {
					t.Fatalf("the call with a fuse of %d changes = %d", n, e)
				}
				d.Crash(keep)
				goesOn(t, d, h, opened(t, d, h, policy, fuses, keep), policy)
			}
		}
		if e == api.OK {
			if n < 5 {
				t.Errorf("the call made %d changes", n)
			}
			return
		}
	}
}

// layered is a disk with a store to which so many tables were flushed, and its history: all is safe.
func layered(t *testing.T, policy int, tables int) (*strata.Disk, *history) {
	t.Helper()
	d, h := newDisk(t, api.MaxQuota), newHistory()
	s := open(t, d, policy)
	for i := range tables {
		ops := []api.Op{put(fmt.Sprint(i%7), fmt.Sprint(i)), gone(fmt.Sprint(i % 4)), put("a", fmt.Sprint(i))}
		does(t, s, ops...)
		h.did(ops)
		flushes(t, s)
	}
	h.synced()
	return d, h
}

func TestTheDiskDiesAtEachChangeOfAFlush(t *testing.T) {
	for _, policy := range policies {
		// With 4 tables of level 0 there is a merging behind the next one; with 24 of which 20 were merged, by Tiered, another one behind that.
		for _, count := range []int{0, 1, 4, 24} {
			d, h := layered(t, policy, count)
			ops := []api.Op{put("b", "new"), gone("1"), put("a", "new")}
			diesWithin(t, d, h, policy, ops, func(s *strata.Store, h *history) api.Errno {
				return s.Flush()
			})
		}
	}
}

func TestTheDiskDiesAtEachChangeOfAFlushBehindABatch(t *testing.T) {
	for _, policy := range policies {
		d, h := layered(t, policy, 4)
		s := open(t, d, policy)
		long := strings.Repeat("v", 64)
		for i := 0; size(t, d) < 4096; i++ {
			ops := []api.Op{put(fmt.Sprint("long", i%3), long)}
			does(t, s, ops...)
			h.did(ops)
		}
		h.synced()
		if told := tables(t, s); len(told) != 4 {
			t.Fatalf("Tables = %v", told)
		}
		diesWithin(t, d, h, policy, []api.Op{put("b", "new")}, func(s *strata.Store, h *history) api.Errno {
			e := api.OK
			for i := 0; len(tables(t, s)) == 4 && i < 60; i++ {
				ops := []api.Op{put("c", long), gone(fmt.Sprint(i))}
				e = s.Batch(ops)
				h.did(ops)
				if e != api.OK {
					return e
				}
			}
			inShape(t, s, policy)
			return e
		})
	}
}

// By another policy than before the first batch brings the tables into shape, whatever deaths there are till then.
func TestTheDiskDiesWhileTablesGetAnotherShape(t *testing.T) {
	for _, before := range policies {
		policy := (before + 1) % 3
		base, history := layered(t, before, 24)
		for n := 0; ; n++ {
			e := api.ErrDead
			for _, keep := range crashes() {
				d, h := copied(t, base, api.MaxQuota), history.clone()
				s := open(t, d, policy)
				ops := []api.Op{put("b", "new"), gone("a")}
				d.Fuse(n)
				e = s.Batch(ops)
				h.did(ops)
				if e != api.OK && e != api.ErrDead {
					t.Fatalf("Batch = %d", e)
				}
				d.Crash(keep)
				s = open(t, d, policy)
				fewFiles(t, d, s)
				goesOn(t, d, h, s, policy)
			}
			if e == api.OK {
				break
			}
		}
	}
}

// A batch is there as a whole or not at all, wherever its bytes are cut off.
func TestNoBatchIsThereByHalves(t *testing.T) {
	var ops []api.Op
	var whole []string
	for i := range api.MaxBatch {
		key, value := strings.Repeat(fmt.Sprint(i), 16), strings.Repeat(fmt.Sprint(i), 64)
		ops = append(ops, put(key, value))
		whole = append(whole, key, value)
	}
	came := map[int]int{}
	for keep := range 1000 {
		d, s := newStore(t)
		does(t, s, put("a", "1"), put("b", "2"))
		answers(t, "Sync", s.Sync(), api.OK)
		does(t, s, append(slices.Clone(ops[:6]), gone("a"), gone("b"))...)
		d.Crash([]int{keep, keep, keep})
		s = open(t, d, 0)
		pairs, _ := s.Scan("", "", 99)
		came[len(pairs)]++
		if !slices.Equal(flat(pairs), whole[:12]) && !slices.Equal(flat(pairs), []string{"a", "1", "b", "2"}) {
			t.Fatalf("with %d bytes kept the map is %q", keep, pairs)
		}
	}
	if came[2] == 0 || came[6] == 0 {
		t.Errorf("so many keys came back so often: %v", came)
	}
}

func TestTheBatchInWhichTheDiskDied(t *testing.T) {
	d, s := newStore(t)
	does(t, s, put("a", "1"))
	answers(t, "Sync", s.Sync(), api.OK)
	d.Fuse(0)
	answers(t, "Batch in which the disk dies", s.Batch([]api.Op{put("b", "2"), gone("a")}), api.ErrDead)
	d.Crash([]int{99, 99, 99})
	s = open(t, d, 0)
	pairs, e := s.Scan("", "", 9)
	if got := flat(pairs); !slices.Equal(got, []string{"a", "1"}) && !slices.Equal(got, []string{"b", "2"}) || e != api.OK {
		t.Errorf("behind the crash the map is %q, %d", got, e)
	}
}

func TestWhatIsLostNeverComesBack(t *testing.T) {
	for keep := range 40 {
		d, s := newStore(t)
		does(t, s, put("a", "1"))
		does(t, s, put("b", "2"))
		does(t, s, put("c", "3"))
		d.Crash([]int{keep, keep, keep})
		s = open(t, d, 0)
		pairs, _ := s.Scan("", "", 9)
		want := append(flat(pairs), "d", "4")
		does(t, s, put("d", "4"))
		has(t, s, want...)
		for range 3 {
			s = open(t, d, 0)
			has(t, s, want...)
			d.Crash([]int{99, 99, 99})
		}
		has(t, open(t, d, 0), want...)
	}
}

// fill puts keys till the disk is full, of which the first two are safe.
func fill(t *testing.T, quota int) (*strata.Disk, *strata.Store, *history) {
	t.Helper()
	d, h := newDisk(t, quota), newHistory()
	s := open(t, d, 0)
	for i := 0; ; i++ {
		ops := []api.Op{put(fmt.Sprint(i), "value")}
		e := s.Batch(ops)
		if e == api.ErrFull {
			return d, s, h
		}
		answers(t, "Batch", e, api.OK)
		h.did(ops)
		if i == 1 {
			answers(t, "Sync", s.Sync(), api.OK)
			h.synced()
		}
	}
}

// A torn log may have to be written anew; a disk on which there is no room for that is full, and nothing is lost.
func TestOpenBehindACrashOnAFullDisk(t *testing.T) {
	answered := map[api.Errno]int{}
	for quota := 30; quota < 200; quota++ {
		for keep := range 30 {
			d, s, h := fill(t, quota)
			d.Crash([]int{keep, keep, keep})
			before := look(d)
			u, e := strata.Open(d, 0)
			refusesEverything(t, s, api.ErrClosed)
			answered[e]++
			switch e {
			case api.OK:
				h.came(t, u)
			case api.ErrFull:
				refusesEverything(t, u, api.ErrClosed)
				if after := look(d); after != before {
					t.Fatalf("the disk was %s, and is %s", before, after)
				}
				h.came(t, open(t, copied(t, d, api.MaxQuota), 0))
			default:
				t.Fatalf("Open = %d", e)
			}
		}
	}
	if answered[api.OK] == 0 || answered[api.ErrFull] == 0 {
		t.Errorf("Open answered %v", answered)
	}
}

func TestAFullDiskDiesAtEachChangeOfOpen(t *testing.T) {
	for quota := 100; quota < 200; quota++ {
		for n := range 20 {
			for _, keep := range []int{0, 1, 15, 40} {
				d, _, h := fill(t, quota)
				d.Crash([]int{keep})
				d.Fuse(n)
				u, e := strata.Open(d, 0)
				_, dead := d.Names()
				if (dead == api.ErrDead) != (e == api.ErrDead) || (u == nil) != (e != api.OK) || e == api.ErrBroken {
					t.Fatalf("Open = %v, %d, and the disk answers %d", u, e, dead)
				}
				d.Crash([]int{1, 20})
				other := copied(t, d, api.MaxQuota)
				goesOn(t, other, h, open(t, other, 0), 0)
			}
		}
	}
}

// What was written over takes no room when a torn log is written anew.
func TestOpenBehindACrashOnADiskFullOfOldValues(t *testing.T) {
	d, h := newDisk(t, 2000), newHistory()
	s := open(t, d, 0)
	for i := range 100 {
		ops := []api.Op{put(fmt.Sprint(i%3), fmt.Sprint("value", i))}
		does(t, s, ops...)
		h.did(ops)
	}
	answers(t, "Sync", s.Sync(), api.OK)
	h.synced()
	does(t, s, put("2", "last"))
	h.did([]api.Op{put("2", "last")})
	d.Crash([]int{5, 5, 5})
	goesOn(t, d, h, open(t, d, 0), 0)
}
