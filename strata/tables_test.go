package strata_test

import (
	"fmt"
	"math"
	"slices"
	"strings"
	"testing"

	"strata/api"
	"strata/strata"
)

func tables(t *testing.T, s *strata.Store) []api.Table {
	t.Helper()
	told, e := s.Tables()
	if e != api.OK {
		t.Fatalf("Tables = %v, %d", told, e)
	}
	return told
}

func levels(t *testing.T, s *strata.Store) []int {
	t.Helper()
	var all []int
	for _, x := range tables(t, s) {
		all = append(all, x.Level)
	}
	return all
}

// flushes flushes a store that nothing refuses it.
func flushes(t *testing.T, s *strata.Store) {
	t.Helper()
	answers(t, "Flush", s.Flush(), api.OK)
}

// tellsTables checks what is told of tables at all times.
func tellsTables(t *testing.T, s *strata.Store) []api.Table {
	t.Helper()
	told := tables(t, s)
	numbers := map[int]bool{}
	for i, x := range told {
		if numbers[x.Number] || x.Level < 0 || x.Entries < 1 || i > 0 && x.Level > told[i-1].Level {
			t.Fatalf("Tables = %v", told)
		}
		numbers[x.Number] = true
	}
	return told
}

// inShape checks the shape that the policy asks for.
func inShape(t *testing.T, s *strata.Store, policy int) {
	t.Helper()
	told := tellsTables(t, s)
	count := map[int]int{}
	for _, x := range told {
		count[x.Level]++
	}
	for level, n := range count {
		alone := policy == api.Leveled && level > 0 || policy == api.Lazy && level > 0 && level == told[0].Level
		if n > 4 || alone && n > 1 {
			t.Fatalf("by the policy %d: Tables = %v", policy, told)
		}
	}
}

// fewFiles checks how many files there are when Open or Flush has answered OK.
func fewFiles(t *testing.T, d *strata.Disk, s *strata.Store) {
	t.Helper()
	names, e := d.Names()
	answers(t, "Names", e, api.OK)
	if told := tables(t, s); len(names) > len(told)+3 {
		t.Fatalf("%d tables, and the files %q", len(told), names)
	}
}

// P10

func TestTablesAndFlush(t *testing.T) {
	d, s := newStore(t)
	if told := tables(t, s); len(told) != 0 {
		t.Errorf("Tables of a new store = %v", told)
	}
	does(t, s, put("b", "1"), put("a", "2"))
	does(t, s, put("b", "3"))
	flushes(t, s)
	told := tables(t, s)
	if len(told) != 1 || told[0].Level != 0 || told[0].Entries != 2 {
		t.Fatalf("Tables = %v", told)
	}
	has(t, s, "a", "2", "b", "3")
	does(t, s, gone("a"), put("c", "4"))
	has(t, s, "b", "3", "c", "4")
	flushes(t, s)
	more := tables(t, s)
	if len(more) != 2 || more[0] != told[0] || more[1].Level != 0 || more[1].Entries != 2 || more[1].Number == more[0].Number {
		t.Fatalf("Tables = %v", more)
	}
	has(t, s, "b", "3", "c", "4")
	does(t, s, put("a", "5"))
	has(t, s, "a", "5", "b", "3", "c", "4")
	has(t, open(t, d, 0), "a", "5", "b", "3", "c", "4")
}

func TestAFlushWithNothingInMemory(t *testing.T) {
	d, s := newStore(t)
	flushes(t, s)
	if told := tables(t, s); len(told) != 0 {
		t.Errorf("Tables = %v", told)
	}
	does(t, s, put("a", "1"))
	flushes(t, s)
	told := tables(t, s)
	for i := range 12 {
		flushes(t, s)
		if again := tables(t, s); !slices.Equal(again, told) {
			t.Errorf("Tables was %v, and is %v", told, again)
		}
		if i%3 == 0 {
			s = open(t, d, i%2)
		}
	}
	has(t, s, "a", "1")
}

func TestAFlushOfDeletionsAboveNothing(t *testing.T) {
	d, s := newStore(t)
	for range 9 {
		does(t, s, gone("a"), put("b", "1"))
		does(t, s, gone("b"))
		flushes(t, s)
		tellsTables(t, s)
		fewFiles(t, d, s)
		has(t, s)
	}
	has(t, open(t, d, 0))
}

// The versions that snapshots keep are entries too.
func TestAFlushWithSnapshots(t *testing.T) {
	_, s := newStore(t)
	for i := range 4 {
		does(t, s, put("a", fmt.Sprint(i)))
		takes(t, s, i+1)
	}
	answers(t, "Release", s.Release(2), api.OK)
	flushes(t, s)
	if told := tables(t, s); len(told) != 1 || told[0].Entries < 3 {
		t.Errorf("Tables = %v", told)
	}
	kept(t, s, 1, "a", "0")
	kept(t, s, 3, "a", "2")
	kept(t, s, 4, "a", "3")
}

// When no snapshot is live, nothing is kept that nobody can see.
func TestAFlushWhenTheSnapshotsAreGivenUp(t *testing.T) {
	_, s := newStore(t)
	for i := range 6 {
		does(t, s, put("a", fmt.Sprint(i)))
		takes(t, s, i+1)
	}
	for i := range 6 {
		answers(t, "Release", s.Release(i+1), api.OK)
	}
	flushes(t, s)
	if told := tables(t, s); len(told) != 1 || told[0].Entries != 1 {
		t.Errorf("Tables = %v", told)
	}
	has(t, s, "a", "5")
}

func TestOnlySomeCallsChangeWhatTablesTells(t *testing.T) {
	for _, policy := range policies {
		d := newDisk(t, api.MaxQuota)
		s := open(t, d, policy)
		for i := range 33 {
			does(t, s, put(fmt.Sprint(i%9), "v"), gone(fmt.Sprint(i%7)))
			if i == 20 {
				takes(t, s, 1)
			}
			flushes(t, s)
		}
		does(t, s, put("memory", "v"))
		told := tables(t, s)
		calls := map[string]func(){
			"Get":      func() { s.Get("1") },
			"Scan":     func() { s.Scan("", "", 99) },
			"Snapshot": func() { s.Snapshot() },
			"GetAt":    func() { s.GetAt(1, "1") },
			"ScanAt":   func() { s.ScanAt(1, "", "", 99) },
			"Release":  func() { s.Release(1) },
			"Sync":     func() { s.Sync() },
			"Put":      func() { s.Put("", "") },
			"Open":     func() { s = open(t, d, (policy+1)%3) },
			"Crash": func() {
				d.Crash(nil)
				s = open(t, d, policy)
			},
			"a copy": func() { s = open(t, copied(t, d, api.MaxQuota), policy) },
		}
		for name, call := range calls {
			call()
			if again := tables(t, s); !slices.Equal(again, told) {
				t.Errorf("behind %s Tables was %v, and is %v", name, told, again)
			}
		}
	}
}

func TestTheShapeBehindEachFlush(t *testing.T) {
	want := map[int]map[int][]int{
		api.Tiered: {4: {0, 0, 0, 0}, 5: {1}, 6: {1, 0}, 24: {1, 1, 1, 1, 0, 0, 0, 0}, 25: {2}, 31: {2, 1, 0}},
		// So few bytes stay in one table of level 1.
		api.Leveled: {4: {0, 0, 0, 0}, 5: {1}, 9: {1, 0, 0, 0, 0}, 10: {1}, 34: {1, 0, 0, 0, 0}},
		api.Lazy:    {4: {0, 0, 0, 0}, 5: {1}, 9: {1, 0, 0, 0, 0}, 10: {1}, 34: {1, 0, 0, 0, 0}},
	}
	for _, policy := range policies {
		d := newDisk(t, api.MaxQuota)
		s := open(t, d, policy)
		var all []string
		for i := 1; i <= 160; i++ {
			key := fmt.Sprintf("%04d", i)
			all = append(all, key, "v")
			does(t, s, put(key, "v"))
			flushes(t, s)
			inShape(t, s, policy)
			fewFiles(t, d, s)
			entries := 0
			for _, x := range tables(t, s) {
				entries += x.Entries
			}
			if entries != i {
				t.Fatalf("by the policy %d, behind %d flushes: Tables = %v", policy, i, tables(t, s))
			}
			if w := want[policy][i]; w != nil && !slices.Equal(levels(t, s), w) {
				t.Errorf("by the policy %d, behind %d flushes: Tables = %v, want the levels %v", policy, i, tables(t, s), w)
			}
			if i%20 == 0 {
				has(t, s, all...)
				s = open(t, d, policy)
				inShape(t, s, policy)
				fewFiles(t, d, s)
				has(t, s, all...)
			}
		}
	}
}

// No table has the number that another one has or had.
func TestNumbersAreTakenOnce(t *testing.T) {
	for _, policy := range policies {
		d := newDisk(t, api.MaxQuota)
		s := open(t, d, policy)
		first := map[int]int{}
		for i := range 80 {
			does(t, s, put(fmt.Sprint(i%10), fmt.Sprint(i)))
			flushes(t, s)
			for _, x := range tables(t, s) {
				if _, ok := first[x.Number]; !ok {
					first[x.Number] = i
				}
			}
			newest := tables(t, s)
			if x := newest[len(newest)-1]; first[x.Number] != i {
				t.Fatalf("behind the flush %d: Tables = %v, of which the last was there behind the flush %d", i, newest, first[x.Number])
			}
		}
	}
}

// filled puts many keys, some of them more than once, so that there are several levels by each policy.
func filled(t *testing.T, s *strata.Store, policy int) map[string]string {
	t.Helper()
	all := map[string]string{}
	for i := range 3000 {
		key := fmt.Sprint("key ", i*7919%2003)
		value := strings.Repeat(fmt.Sprint(i%10), 40+i%25)
		if i%11 == 5 {
			answers(t, "Delete", s.Delete(key), api.OK)
			delete(all, key)
		} else {
			answers(t, "Put", s.Put(key, value), api.OK)
			all[key] = value
		}
		inShape(t, s, policy)
	}
	return all
}

func TestTheShapeOfManyKeys(t *testing.T) {
	for _, policy := range policies {
		d := newDisk(t, api.MaxQuota)
		s := open(t, d, policy)
		all := filled(t, s, policy)
		if got := levels(t, s); len(got) == 0 || got[0] < 2 {
			t.Errorf("by the policy %d the levels are %v", policy, got)
		}
		has(t, s, listed(all)...)
		d.Crash(nil)
		s = open(t, d, policy)
		inShape(t, s, policy)
		fewFiles(t, d, s)
		flushes(t, s)
		inShape(t, s, policy)
	}
}

// By another policy the shape is right when the first batch is done, or the first flush.
func TestTheShapeByAnotherPolicy(t *testing.T) {
	calls := map[string]func(*strata.Store) api.Errno{
		"Put":    func(s *strata.Store) api.Errno { return s.Put("new", "1") },
		"Delete": func(s *strata.Store) api.Errno { return s.Delete("new") },
		"Batch":  func(s *strata.Store) api.Errno { return s.Batch([]api.Op{put("new", "1"), gone("new")}) },
		"Flush":  (*strata.Store).Flush,
	}
	for _, before := range policies {
		d := newDisk(t, api.MaxQuota)
		s := open(t, d, before)
		for i := range 124 {
			does(t, s, put(fmt.Sprint(i%50), fmt.Sprint(i)), gone(fmt.Sprint(i%30)))
			flushes(t, s)
		}
		pairs, _ := s.Scan("", "", 999)
		for _, policy := range policies {
			for name, call := range calls {
				d := copied(t, d, api.MaxQuota)
				s := open(t, d, policy)
				takes(t, s, 1)
				answers(t, name, call(s), api.OK)
				inShape(t, s, policy)
				kept(t, s, 1, flat(pairs)...)
				flushes(t, s)
				inShape(t, s, policy)
				fewFiles(t, d, s)
				kept(t, s, 1, flat(pairs)...)
			}
		}
	}
}

// What is merged to nothing leaves no table, and what is left is in shape.
func TestTablesOfWhichNothingIsLeft(t *testing.T) {
	for _, policy := range policies {
		for _, next := range policies {
			d := newDisk(t, api.MaxQuota)
			s := open(t, d, policy)
			for i := range 90 {
				ops := []api.Op{gone("a"), gone("b")}
				if i%2 == 0 {
					ops = []api.Op{put("a", "1"), put("b", "2")}
				}
				does(t, s, ops...)
				flushes(t, s)
				inShape(t, s, policy)
				fewFiles(t, d, s)
			}
			has(t, s)
			s = open(t, d, next)
			does(t, s, gone("c"))
			inShape(t, s, next)
			has(t, s)
		}
	}
}

// Deletions above nothing are not kept when tables are merged, and not when they are flushed.
func TestDeletionsGoWhenThereIsNothingBelow(t *testing.T) {
	for _, policy := range policies {
		s := open(t, newDisk(t, api.MaxQuota), policy)
		does(t, s, put("a", "1"))
		does(t, s, gone("a"), gone("b"))
		flushes(t, s)
		if told := tables(t, s); len(told) != 0 {
			t.Errorf("Tables = %v", told)
		}
		for i := range 5 {
			does(t, s, put("a", "1"), put(fmt.Sprint(i), "2"))
			if i > 0 {
				does(t, s, gone("a"), gone(fmt.Sprint(i-1)))
			}
			flushes(t, s)
		}
		// One table of all: the key 4 is left.
		if told := tables(t, s); len(told) != 1 || told[0].Level != 1 || told[0].Entries != 1 {
			t.Errorf("Tables = %v", told)
		}
		has(t, s, "4", "2")
	}
}

// A value that is written over and over does not fill the disk, by one store or by many.
func TestTheLogIsFlushedWhenItIsLong(t *testing.T) {
	for _, policy := range policies {
		for _, often := range []int{1, 3, 10000} {
			d := newDisk(t, 40000)
			s := open(t, d, policy)
			var told []api.Table
			changes := 0
			for i := range 5000 {
				answers(t, "Put", s.Put(fmt.Sprint("key", i%20), strings.Repeat("v", 64)), api.OK)
				if again := tables(t, s); !slices.Equal(again, told) {
					told = again
					changes++
				}
				if i%often == often-1 {
					s = open(t, d, policy)
				}
			}
			inShape(t, s, policy)
			// 5000 times some 80 bytes, and 4096 of them each time.
			if changes < 50 || changes > 150 {
				t.Errorf("by the policy %d there were %d flushes", policy, changes)
			}
		}
	}
}

func TestFlushAndTablesOfAStoreThatIsStuck(t *testing.T) {
	d := newDisk(t, 400)
	s := open(t, d, api.Tiered)
	does(t, s, put("a", "1"))
	flushes(t, s)
	told := tables(t, s)
	value := strings.Repeat("v", 64)
	for s.Put("a", value) == api.OK {
	}
	answers(t, "Put", s.Put("b", ""), api.ErrStuck)
	answers(t, "Flush", s.Flush(), api.ErrStuck)
	if again := tables(t, s); !slices.Equal(again, told) {
		t.Errorf("Tables was %v, and is %v", told, again)
	}
	has(t, s, "a", value)
	kill(d)
	answers(t, "Flush", s.Flush(), api.ErrDead)
	d.Crash(nil)
	answers(t, "Flush", s.Flush(), api.ErrClosed)
}

// A full disk.

// ballast takes all the room of a disk but for some bytes.
func ballast(t *testing.T, d *strata.Disk, quota int, room int) {
	t.Helper()
	answers(t, "Write of ballast", d.Write("ballast", strings.Repeat("x", quota-size(t, d)-room)), api.OK)
}

func TestAFlushForWhichThereIsNoRoom(t *testing.T) {
	const quota = 4000
	for _, policy := range policies {
		for flushed := range 10 {
			answered := map[api.Errno]int{}
			for room := 0; room < 700; room += 13 {
				d := newDisk(t, quota)
				s := open(t, d, policy)
				for i := range flushed {
					does(t, s, put(fmt.Sprint("key", i), strings.Repeat("v", 40)), put("same", fmt.Sprint(i)))
					flushes(t, s)
				}
				does(t, s, put("last", strings.Repeat("v", 60)), gone("key1"))
				takes(t, s, 1)
				pairs, _ := s.Scan("", "", 99)
				before := tables(t, s)
				ballast(t, d, quota, room)
				e := s.Flush()
				answered[e]++
				told := tellsTables(t, s)
				if e != api.OK && e != api.ErrFull || e == api.ErrFull && !slices.Equal(told, before) && len(told) != len(before)+1 {
					t.Fatalf("Flush = %d, Tables = %v", e, told)
				}
				if e == api.OK {
					names, _ := d.Names()
					if len(names) > len(told)+1+3 {
						t.Fatalf("%d tables, and the files %q", len(told), names)
					}
				}
				has(t, s, flat(pairs)...)
				kept(t, s, 1, flat(pairs)...)
				answers(t, "Remove", d.Remove("ballast"), api.OK)
				does(t, s, put("more", "1"))
				flushes(t, s)
				fewFiles(t, d, s)
				kept(t, s, 1, flat(pairs)...)
				s = open(t, d, policy)
				does(t, s, gone("more"))
				has(t, s, flat(pairs)...)
			}
			if answered[api.OK] == 0 || answered[api.ErrFull] == 0 {
				t.Errorf("Flush answered %v", answered)
			}
		}
	}
}

// The merging behind a flush needs more room than the flush: what is in memory need not wait for it.
func TestAFlushOfWhichTheMergingIsRefused(t *testing.T) {
	const quota = 6000
	for _, policy := range policies {
		d := newDisk(t, quota)
		s := open(t, d, policy)
		for i := range 4 {
			for j := range 8 {
				does(t, s, put(fmt.Sprint("key", i, j), strings.Repeat("v", 64)))
			}
			flushes(t, s)
		}
		does(t, s, put("last", "1"))
		ballast(t, d, quota, 400)
		flushes(t, s)
		if got := levels(t, s); !slices.Equal(got, []int{0, 0, 0, 0, 0}) {
			t.Errorf("the levels are %v", got)
		}
		finds(t, s, "last", "1")
		// Not even a batch is refused for that.
		does(t, s, put("more", "2"))
		pairs, _ := s.Scan("", "", 99)
		answers(t, "Remove", d.Remove("ballast"), api.OK)
		flushes(t, s)
		inShape(t, s, policy)
		has(t, s, flat(pairs)...)
		has(t, open(t, d, policy), flat(pairs)...)
	}
}

// A long log is flushed behind a batch; if that is refused the batch is done nevertheless.
func TestABatchBehindWhichThereIsNoRoomForAFlush(t *testing.T) {
	const quota = 20000
	for _, policy := range policies {
		d := newDisk(t, quota)
		s := open(t, d, policy)
		want := map[string]string{}
		step := func(i int) {
			key, value := fmt.Sprint("key", i), strings.Repeat("v", 64)
			does(t, s, put(key, value))
			want[key] = value
		}
		for i := range 40 {
			step(i)
		}
		ballast(t, d, quota, 2000)
		for i := range 20 {
			step(40 + i)
		}
		if told := tables(t, s); len(told) != 0 {
			t.Fatalf("Tables = %v", told)
		}
		has(t, s, listed(want)...)
		answers(t, "Remove", d.Remove("ballast"), api.OK)
		step(99)
		if told := tables(t, s); len(told) != 1 {
			t.Fatalf("Tables = %v", told)
		}
		has(t, s, listed(want)...)
		has(t, open(t, d, 0), listed(want)...)
	}
}

func TestAFlushOnADiskOfEachSize(t *testing.T) {
	for quota := range 600 {
		d, h := newDisk(t, quota), newHistory()
		s := open(t, d, quota%3)
		stuck := false
		for i := range 40 {
			if ops := []api.Op{put(fmt.Sprint(i%6), strings.Repeat("v", i))}; !stuck {
				e := s.Batch(ops)
				if e == api.OK {
					h.did(ops)
				} else {
					answers(t, "Batch", e, api.ErrFull)
					stuck = true
				}
			}
			e := s.Flush()
			if stuck && e != api.ErrStuck || !stuck && e != api.OK && e != api.ErrFull {
				t.Fatalf("Flush = %d", e)
			}
			h.is(t, s)
			tellsTables(t, s)
			if e == api.OK {
				fewFiles(t, d, s)
			}
			if stuck && i%3 == 0 {
				if s, e = strata.Open(d, quota%3); e != api.OK {
					t.Fatalf("Open = %d", e)
				}
				fewFiles(t, d, s)
				stuck = false
				h.is(t, s)
			}
		}
	}
}

// P1

func TestScanAtAndGetAtEndOnEveryInput(t *testing.T) {
	_, s := newStore(t)
	does(t, s, put("a", "1"))
	flushes(t, s)
	takes(t, s, 1)
	for _, id := range []int{math.MinInt, -1, 0, 1, 2, math.MaxInt} {
		for _, lo := range []string{"", "a", strings.Repeat("x", 100000)} {
			for _, hi := range []string{"", "a", strings.Repeat("x", 100000)} {
				s.ScanAt(id, lo, hi, math.MaxInt)
				s.ScanAt(id, lo, hi, math.MinInt)
			}
			s.GetAt(id, lo)
		}
	}
}
