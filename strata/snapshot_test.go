package strata_test

import (
	"fmt"
	"maps"
	"math"
	"slices"
	"strings"
	"testing"

	"strata/api"
	"strata/strata"
)

// takes takes a snapshot that nothing refuses, and tells its number.
func takes(t *testing.T, s *strata.Store, want int) int {
	t.Helper()
	id, e := s.Snapshot()
	if id != want || e != api.OK {
		t.Fatalf("Snapshot = %d, %d, want %d", id, e, want)
	}
	return id
}

// kept checks the map that a snapshot keeps: a key, its value, and so on.
func kept(t *testing.T, s *strata.Store, id int, want ...string) {
	t.Helper()
	pairs, e := s.ScanAt(id, "", "", math.MaxInt)
	if !slices.Equal(flat(pairs), want) || e != api.OK {
		t.Fatalf("ScanAt(%d) = %q, %d, want %q", id, pairs, e, want)
	}
	for i := 0; i < len(want); i += 2 {
		if value, ok, e := s.GetAt(id, want[i]); value != want[i+1] || !ok || e != api.OK {
			t.Errorf("GetAt(%d, %q) = %q, %v, %d, want %q", id, want[i], value, ok, e, want[i+1])
		}
	}
}

// isNone checks that no snapshot of this number is live, which is told ahead of all that is wrong besides.
func isNone(t *testing.T, s *strata.Store, id int) {
	t.Helper()
	for _, key := range []string{"a", "", strings.Repeat("k", 17)} {
		if value, ok, e := s.GetAt(id, key); value != "" || ok || e != api.ErrSnap {
			t.Errorf("GetAt(%d, %q) = %q, %v, %d, want nothing, %d", id, key, value, ok, e, api.ErrSnap)
		}
	}
	for _, limit := range []int{9, 0, -1, math.MinInt} {
		if pairs, e := s.ScanAt(id, "", "", limit); pairs != nil || e != api.ErrSnap {
			t.Errorf("ScanAt(%d, .., %d) = %q, %d, want nil, %d", id, limit, pairs, e, api.ErrSnap)
		}
	}
	answers(t, "Release of no snapshot", s.Release(id), api.ErrSnap)
}

func listed(m map[string]string) []string {
	var all []string
	for _, key := range slices.Sorted(maps.Keys(m)) {
		all = append(all, key, m[key])
	}
	return all
}

// P9

func TestASnapshotKeepsTheMap(t *testing.T) {
	_, s := newStore(t)
	does(t, s, put("a", "1"), put("b", "2"))
	takes(t, s, 1)
	does(t, s, put("a", "3"), gone("b"), put("c", "4"))
	takes(t, s, 2)
	does(t, s, gone("a"), gone("c"), put("b", "5"), put("d", "6"))
	for range 3 {
		kept(t, s, 1, "a", "1", "b", "2")
		kept(t, s, 2, "a", "3", "c", "4")
		has(t, s, "b", "5", "d", "6")
		for _, key := range []string{"c", "d", "none"} {
			if value, ok, e := s.GetAt(1, key); value != "" || ok || e != api.OK {
				t.Errorf("GetAt(1, %q) = %q, %v, %d", key, value, ok, e)
			}
		}
		answers(t, "Flush", s.Flush(), api.OK)
	}
}

func TestSnapshotsOfNothingAndOfTheSame(t *testing.T) {
	_, s := newStore(t)
	takes(t, s, 1)
	takes(t, s, 2)
	does(t, s, put("a", "1"))
	takes(t, s, 3)
	takes(t, s, 4)
	does(t, s, put("a", "2"))
	answers(t, "Release", s.Release(3), api.OK)
	answers(t, "Release", s.Release(1), api.OK)
	answers(t, "Flush", s.Flush(), api.OK)
	kept(t, s, 2)
	kept(t, s, 4, "a", "1")
	has(t, s, "a", "2")
}

// What goes on beside them changes no snapshot, by whatever policy; and what is not kept any more can go.
func TestSnapshotsAreReadWhileTheStoreGoesOn(t *testing.T) {
	for _, policy := range policies {
		s := open(t, newDisk(t, api.MaxQuota), policy)
		now, live, last := map[string]string{}, map[int]map[string]string{}, 0
		for i := range 400 {
			key := fmt.Sprint(i * 7 % 12)
			var ops []api.Op
			switch i % 5 {
			case 0:
				ops = []api.Op{gone(key)}
			case 3:
				ops = []api.Op{put(key, "x"), gone("none"), put(key+key, fmt.Sprint(i)), gone(key)}
			default:
				ops = []api.Op{put(key, fmt.Sprint(i))}
			}
			does(t, s, ops...)
			for _, op := range ops {
				if op.Delete {
					delete(now, op.Key)
				} else {
					now[op.Key] = op.Value
				}
			}
			if i%3 == 1 {
				answers(t, "Flush", s.Flush(), api.OK)
			}
			if i%7 == 0 {
				if len(live) == api.MaxSnaps {
					// Not the oldest each time.
					id := slices.Sorted(maps.Keys(live))[i%api.MaxSnaps]
					answers(t, "Release", s.Release(id), api.OK)
					delete(live, id)
				}
				last++
				live[takes(t, s, last)] = maps.Clone(now)
			}
			has(t, s, listed(now)...)
			for id, m := range live {
				kept(t, s, id, listed(m)...)
			}
		}
	}
}

func TestAsManySnapshotsAsThereMayBe(t *testing.T) {
	_, s := newStore(t)
	for i := range api.MaxSnaps {
		does(t, s, put("a", fmt.Sprint(i)))
		takes(t, s, i+1)
	}
	for range 3 {
		if id, e := s.Snapshot(); id != 0 || e != api.ErrSnap {
			t.Errorf("one snapshot too many = %d, %d, want 0, %d", id, e, api.ErrSnap)
		}
	}
	for i := range api.MaxSnaps {
		kept(t, s, i+1, "a", fmt.Sprint(i))
	}
	answers(t, "Release", s.Release(4), api.OK)
	// One that was refused took no number, and one that was given up gives none back.
	takes(t, s, api.MaxSnaps+1)
	isNone(t, s, 4)
	if id, e := s.Snapshot(); id != 0 || e != api.ErrSnap {
		t.Errorf("one snapshot too many = %d, %d, want 0, %d", id, e, api.ErrSnap)
	}
	for id := 1; id <= api.MaxSnaps+1; id++ {
		if id != 4 {
			answers(t, "Release", s.Release(id), api.OK)
		}
		isNone(t, s, id)
	}
	for i := range 100 {
		id := takes(t, s, api.MaxSnaps+2+i)
		kept(t, s, id, "a", fmt.Sprint(api.MaxSnaps-1))
		answers(t, "Release", s.Release(id), api.OK)
		answers(t, "Release once more", s.Release(id), api.ErrSnap)
	}
}

func TestNumbersOfNoSnapshot(t *testing.T) {
	_, s := newStore(t)
	does(t, s, put("a", "1"))
	isNone(t, s, 1)
	takes(t, s, 1)
	for _, id := range []int{math.MinInt, -1, 0, 2, 3, 1 << 32, 1<<32 + 1, math.MaxInt} {
		isNone(t, s, id)
	}
	kept(t, s, 1, "a", "1")
}

func TestWrongKeysAndLimitsAtASnapshot(t *testing.T) {
	_, s := newStore(t)
	does(t, s, put("a", "1"))
	takes(t, s, 1)
	for _, key := range []string{"", strings.Repeat("k", 17), strings.Repeat("k", 100000)} {
		if value, ok, e := s.GetAt(1, key); value != "" || ok || e != api.ErrArg {
			t.Errorf("GetAt(1, %q) = %q, %v, %d, want nothing, %d", key, value, ok, e, api.ErrArg)
		}
	}
	for _, limit := range []int{-1, math.MinInt} {
		if pairs, e := s.ScanAt(1, "", "", limit); pairs != nil || e != api.ErrArg {
			t.Errorf("ScanAt(1, .., %d) = %q, %d, want nil, %d", limit, pairs, e, api.ErrArg)
		}
	}
}

func TestASnapshotOfAStoreThatIsNotOpenOrDead(t *testing.T) {
	d, s := newStore(t)
	does(t, s, put("k", "1"))
	answers(t, "Flush", s.Flush(), api.OK)
	takes(t, s, 1)
	kill(d)
	refusesEverything(t, s, api.ErrDead)
	d.Crash(nil)
	refusesEverything(t, s, api.ErrClosed)
	u := open(t, d, api.Lazy)
	refusesEverything(t, s, api.ErrClosed)
	isNone(t, u, 1)
	takes(t, u, 1)
	open(t, d, api.Tiered)
	refusesEverything(t, u, api.ErrClosed)
}

func TestSnapshotsOfAStuckStore(t *testing.T) {
	_, s := stick(t)
	want := []string{"a", strings.Repeat("v", 50)}
	takes(t, s, 1)
	kept(t, s, 1, want...)
	takes(t, s, 2)
	answers(t, "Release", s.Release(1), api.OK)
	isNone(t, s, 1)
	kept(t, s, 2, want...)
}

// Scan and ScanAt, with keys in memory and in several tables, and deletions above older values.
func TestAScanMergesTheLayers(t *testing.T) {
	for _, policy := range policies {
		s := open(t, newDisk(t, api.MaxQuota), policy)
		keys := []string{"\x00", "a", "a\x00", "aa", "ab", "b", "c", "\x80", "\xff\xff"}
		now, then := map[string]string{}, map[string]string{}
		for i := range 4 {
			for j, key := range keys {
				switch (i*i + j*3 + i*j) % 4 {
				case 0:
					does(t, s, gone(key))
					delete(now, key)
				case 1, 2:
					value := fmt.Sprint("value ", i, j)
					does(t, s, put(key, value))
					now[key] = value
				}
			}
			if i == 2 {
				takes(t, s, 1)
				then = maps.Clone(now)
			}
			if i < 3 {
				answers(t, "Flush", s.Flush(), api.OK)
			}
		}
		if told := tables(t, s); len(told) != 3 {
			t.Fatalf("Tables = %v", told)
		}
		bounds := append(slices.Clone(keys), "", "0", "aaa", "bb", strings.Repeat("z", 99), strings.Repeat("\x00", 17))
		for _, lo := range bounds {
			for _, hi := range bounds {
				for _, limit := range []int{0, 1, 2, 3, 9, 1 << 40} {
					pairs, e := s.Scan(lo, hi, limit)
					if want := part(now, lo, hi, limit); !slices.Equal(flat(pairs), want) || e != api.OK {
						t.Fatalf("Scan(%q, %q, %d) = %q, %d, want %q", lo, hi, limit, pairs, e, want)
					}
					pairs, e = s.ScanAt(1, lo, hi, limit)
					if want := part(then, lo, hi, limit); !slices.Equal(flat(pairs), want) || e != api.OK {
						t.Fatalf("ScanAt(1, %q, %q, %d) = %q, %d, want %q", lo, hi, limit, pairs, e, want)
					}
				}
			}
		}
		has(t, s, listed(now)...)
		kept(t, s, 1, listed(then)...)
	}
}

// part is the first limit of the keys from lo on and ahead of hi, with their values.
func part(m map[string]string, lo string, hi string, limit int) []string {
	var all []string
	for _, key := range slices.Sorted(maps.Keys(m)) {
		if key >= lo && (hi == "" || key < hi) && len(all)/2 < limit {
			all = append(all, key, m[key])
		}
	}
	return all
}

// P2

// writesOver writes into all that a store answers, twice.
func writesOver(s *strata.Store) {
	for range 2 {
		for _, key := range []string{"a", "c"} {
			value, _, _ := s.Get(key)
			overwrite(value)
			value, _, _ = s.GetAt(1, key)
			overwrite(value)
		}
		now, _ := s.Scan("", "", 9)
		then, _ := s.ScanAt(1, "", "", 9)
		for _, p := range slices.Concat(now, then) {
			overwrite(p.Key)
			overwrite(p.Value)
		}
		told, _ := s.Tables()
		told = told[:cap(told)]
		for i := range told {
			told[i] = api.Table{Number: 99, Level: 99, Entries: 99}
		}
	}
}

func TestAnAnswerFromALayerIsNewMemory(t *testing.T) {
	d, s := newStore(t)
	does(t, s, put("a", "value of a"), put("b", "value of b"))
	flushes(t, s)
	told := tables(t, s)
	does(t, s, put("c", "value of c"))
	takes(t, s, 1)
	does(t, s, put("c", "later"))
	writesOver(s)
	kept(t, s, 1, "a", "value of a", "b", "value of b", "c", "value of c")
	for range 2 {
		has(t, s, "a", "value of a", "b", "value of b", "c", "later")
		if again := tables(t, s); !slices.Equal(again, told) {
			t.Errorf("Tables was %v, and is %v", told, again)
		}
		s = open(t, d, 0)
		takes(t, s, 1)
		writesOver(s)
	}
	flushes(t, s)
	has(t, s, "a", "value of a", "b", "value of b", "c", "later")
}

func TestWhatIsFlushedIsNotTheCallers(t *testing.T) {
	d, s := newStore(t)
	does(t, s, put("gone", "1"), put("other", "2"))
	flushes(t, s)
	key, value, other := strings.Clone("key"), strings.Clone("value"), strings.Clone("gone")
	answers(t, "Put", s.Put(key, value), api.OK)
	answers(t, "Delete", s.Delete(other), api.OK)
	takes(t, s, 1)
	overwrite(other)
	flushes(t, s)
	overwrite(key)
	overwrite(value)
	want := []string{"key", "value", "other", "2"}
	has(t, s, want...)
	kept(t, s, 1, want...)
	has(t, open(t, d, 0), want...)
}
