package strata_test

import (
	"fmt"
	"maps"
	"math"
	"math/rand"
	"slices"
	"strings"
	"testing"

	"strata/api"
	"strata/strata"
)

// given is the numbers that tables of a store have had since it was opened.
type given map[int]bool

func (g given) see(told []api.Table) {
	for _, x := range told {
		g[x.Number] = true
	}
}

// numbersOf is the proposal to merge these tables.
func numbersOf(told []api.Table) []int {
	var all []int
	for _, x := range told {
		all = append(all, x.Number)
	}
	return all
}

// isMerged checks what Tables tells when those from one index on and ahead of another were merged.
func isMerged(t *testing.T, before []api.Table, from int, to int, after []api.Table, had given) {
	t.Helper()
	left := len(after) - (len(before) - (to - from))
	if left < 0 || left > 1 || !slices.Equal(after[:from], before[:from]) || !slices.Equal(after[from+left:], before[to:]) {
		t.Fatalf("Tables was %v, %d to %d were merged, and it is %v", before, from, to, after)
	}
	if left == 0 {
		return
	}
	most := 0
	for _, x := range before[from:to] {
		most += x.Entries
	}
	if x := after[from]; x.Level != before[from].Level || had[x.Number] || x.Entries < 1 || x.Entries > most {
		t.Fatalf("Tables was %v, %d to %d were merged, and it is %v", before, from, to, after)
	}
}

// merges merges tables of a store that nothing refuses it, and checks what comes of that.
func merges(t *testing.T, s *strata.Store, from int, to int, had given) []api.Table {
	t.Helper()
	before := tables(t, s)
	had.see(before)
	answers(t, "Merge", s.Merge(numbersOf(before[from:to])), api.OK)
	after := tellsTables(t, s)
	isMerged(t, before, from, to, after, had)
	had.see(after)
	return after
}

// compacts compacts a store that nothing refuses it, and checks that all is in one table, or in none.
func compacts(t *testing.T, s *strata.Store) []api.Table {
	t.Helper()
	answers(t, "Compact", s.Compact(), api.OK)
	told := tellsTables(t, s)
	if len(told) > 1 {
		t.Fatalf("behind Compact Tables = %v", told)
	}
	return told
}

// isSmall checks what Compact leaves on the disk when no snapshot is live: the table, the bytes of all files, and how many these are.
func isSmall(t *testing.T, d *strata.Disk, s *strata.Store) {
	t.Helper()
	pairs, e := s.Scan("", "", math.MaxInt)
	answers(t, "Scan", e, api.OK)
	most := 400 + 24*len(pairs)
	for _, p := range pairs {
		most += len(p.Key) + len(p.Value)
	}
	if n := size(t, d); n > most {
		t.Fatalf("%d keys take %d bytes, and may take %d", len(pairs), n, most)
	}
	entries := 0
	for _, x := range tables(t, s) {
		entries += x.Entries
	}
	if entries != len(pairs) || len(tables(t, s)) > 1 {
		t.Fatalf("with %d keys Tables = %v", len(pairs), tables(t, s))
	}
	fewFiles(t, d, s)
}

// richQuota is more than a rich store ever takes.
const richQuota = 20000

// rich is a store with keys in memory and in several tables, of more than one level if it flushes often, which writes over and deletes what older tables have.
// With snaps it has as many snapshots as there may be, and tells their maps; the last one is that of the store.
func rich(t *testing.T, policy int, flushes int, snaps bool) (*strata.Disk, *strata.Store, []map[string]string) {
	t.Helper()
	d, h := newDisk(t, richQuota), newHistory()
	s := open(t, d, policy)
	var all []map[string]string
	step := func(i int) {
		ops := []api.Op{put(fmt.Sprint("k", i%9), fmt.Sprint(i)), gone(fmt.Sprint("k", i*5%9)), put("same", fmt.Sprint(i)), put(fmt.Sprint("own", i), "")}
		does(t, s, ops...)
		h.did(ops)
	}
	for i := range flushes {
		step(i)
		if snaps && len(all) < api.MaxSnaps-1 && i%3 == 1 {
			takes(t, s, len(all)+1)
			all = append(all, maps.Clone(h.now))
		}
		step(i + 1)
		answers(t, "Flush", s.Flush(), api.OK)
	}
	if snaps {
		takes(t, s, len(all)+1)
		all = append(all, maps.Clone(h.now))
	}
	step(flushes + 7)
	return d, s, append(all, h.now)
}

// isAsBefore checks the map of a store and those of its snapshots.
func isAsBefore(t *testing.T, s *strata.Store, all []map[string]string) {
	t.Helper()
	for i, m := range all[:len(all)-1] {
		kept(t, s, i+1, listed(m)...)
	}
	has(t, s, listed(all[len(all)-1])...)
}

// P11

func TestCompact(t *testing.T) {
	for _, policy := range policies {
		for _, flushes := range []int{0, 1, 2, 4, 5, 9, 23, 31} {
			d, s, all := rich(t, policy, flushes, false)
			highest := append(levels(t, s), 0)[0]
			if told := compacts(t, s); len(told) != 1 || told[0].Level != highest {
				t.Fatalf("Tables = %v", told)
			}
			isSmall(t, d, s)
			isAsBefore(t, s, all)
			d.Crash(nil)
			s = open(t, d, policy)
			isSmall(t, d, s)
			isAsBefore(t, s, all)
		}
	}
}

func TestCompactWithSnapshots(t *testing.T) {
	for _, policy := range policies {
		for _, flushes := range []int{0, 1, 4, 9, 23, 31} {
			d, s, all := rich(t, policy, flushes, true)
			for range 2 {
				if told := compacts(t, s); len(told) != 1 {
					t.Fatalf("Tables = %v", told)
				}
				fewFiles(t, d, s)
				isAsBefore(t, s, all)
				does(t, s, put("last", "1"))
				all[len(all)-1]["last"] = "1"
			}
			for id := range all[1:] {
				answers(t, "Release", s.Release(id+1), api.OK)
			}
			compacts(t, s)
			isSmall(t, d, s)
			has(t, s, listed(all[len(all)-1])...)
		}
	}
}

// What only a snapshot sees is in a table too, and what is not there now does not come back for it.
func TestCompactOfWhatOnlyASnapshotSees(t *testing.T) {
	d, s := newStore(t)
	does(t, s, put("a", "1"), put("b", "2"))
	flushes(t, s)
	does(t, s, gone("a"))
	takes(t, s, 1)
	does(t, s, gone("b"), put("a", "3"))
	takes(t, s, 2)
	does(t, s, gone("a"))
	for range 2 {
		if told := compacts(t, s); len(told) != 1 {
			t.Errorf("Tables = %v", told)
		}
		has(t, s)
		kept(t, s, 1, "b", "2")
		kept(t, s, 2, "a", "3")
	}
	has(t, open(t, copied(t, d, api.MaxQuota), 0))
	answers(t, "Release", s.Release(1), api.OK)
	compacts(t, s)
	kept(t, s, 2, "a", "3")
	answers(t, "Release", s.Release(2), api.OK)
	if told := compacts(t, s); len(told) != 0 {
		t.Errorf("Tables = %v", told)
	}
	isSmall(t, d, s)
}

func TestCompactOfNothing(t *testing.T) {
	for _, policy := range policies {
		d := newDisk(t, api.MaxQuota)
		s := open(t, d, policy)
		for range 3 {
			if told := compacts(t, s); len(told) != 0 {
				t.Errorf("Tables = %v", told)
			}
			isSmall(t, d, s)
			has(t, s)
			s = open(t, d, policy)
		}
	}
}

func TestCompactWhenAllKeysAreDeleted(t *testing.T) {
	for _, policy := range policies {
		for _, count := range []int{0, 1, 4, 30} {
			d := newDisk(t, api.MaxQuota)
			s := open(t, d, policy)
			for i := range count {
				does(t, s, put(fmt.Sprint(i), "1"), put("same", "2"))
				flushes(t, s)
			}
			does(t, s, gone("none"), gone("same"))
			for i := range count {
				does(t, s, gone(fmt.Sprint(i)))
			}
			if told := compacts(t, s); len(told) != 0 {
				t.Errorf("Tables = %v", told)
			}
			isSmall(t, d, s)
			has(t, s)
			has(t, open(t, d, policy))
		}
	}
}

func TestCompactOfWhatIsCompact(t *testing.T) {
	for _, policy := range policies {
		d, s, all := rich(t, policy, 9, false)
		compacts(t, s)
		told, before := tables(t, s), look(d)
		for i := range 9 {
			compacts(t, s)
			isSmall(t, d, s)
			isAsBefore(t, s, all)
			// There is nothing to do, so nothing is done.
			if after := look(d); after != before || !slices.Equal(tables(t, s), told) {
				t.Fatalf("the disk was %s, and is %s", before, after)
			}
			if i%3 == 2 {
				s = open(t, d, policy)
			}
		}
	}
}

// Deletions alone in memory are no table, and not nothing either.
func TestCompactWithDeletionsAloneInMemory(t *testing.T) {
	d, s := newStore(t)
	does(t, s, put("a", "1"), put("b", "2"))
	compacts(t, s)
	does(t, s, gone("a"), gone("c"))
	compacts(t, s)
	isSmall(t, d, s)
	has(t, s, "b", "2")
	does(t, s, gone("b"))
	compacts(t, s)
	isSmall(t, d, s)
	has(t, s)
	does(t, s, gone("b"))
	compacts(t, s)
	isSmall(t, d, s)
	has(t, open(t, d, 0))
}

func TestTheBytesBehindCompact(t *testing.T) {
	for _, policy := range policies {
		for _, c := range []struct{ keys, key, value int }{
			{1, 1, 0}, {1, 16, 64}, {2, 16, 0}, {8, 16, 64}, {50, 2, 0}, {4000, 3, 0}, {4000, 3, 1}, {2000, 16, 64},
		} {
			d := newDisk(t, api.MaxQuota)
			s := open(t, d, policy)
			for i := range c.keys {
				key := strings.Repeat("0", 16) + fmt.Sprintf("%x", i)
				key = key[len(key)-c.key:]
				// Each is written over, some of them later.
				does(t, s, put(key, strings.Repeat("w", 64)), put(key, strings.Repeat("v", c.value)))
				if i%100 == 50 {
					flushes(t, s)
				}
				if i%1000 == 999 {
					does(t, s, put(key, "again"), gone("gone"))
					does(t, s, put(key, strings.Repeat("v", c.value)))
				}
			}
			compacts(t, s)
			isSmall(t, d, s)
			pairs, _ := s.Scan("", "", math.MaxInt)
			if len(pairs) != c.keys {
				t.Fatalf("there are %d keys, want %d", len(pairs), c.keys)
			}
			s = open(t, d, policy)
			isSmall(t, d, s)
			has(t, s, flat(pairs)...)
		}
	}
}

// The bytes of a log that a crash cut off are not there behind Compact, nor is anything else that a death left.
func TestTheBytesBehindCompactBehindACrash(t *testing.T) {
	for n := range 12 {
		for keep := range 60 {
			d, s, _ := rich(t, n%3, 4, false)
			d.Fuse(n)
			s.Compact()
			d.Crash(slices.Repeat([]int{keep}, 9))
			s = open(t, d, n%3)
			compacts(t, s)
			isSmall(t, d, s)
		}
	}
}

// P12

// orders are some orders of numbers, among them all if there are three.
func orders(numbers []int) [][]int {
	all := [][]int{numbers}
	backward := slices.Clone(numbers)
	slices.Reverse(backward)
	all = append(all, backward)
	for i := 1; i < len(numbers); i++ {
		all = append(all, slices.Concat(numbers[i:], numbers[:i]), slices.Concat(backward[i:], backward[:i]))
	}
	return all
}

// All neighbours of all tables, by each policy, in several orders, with and without snapshots.
func TestMerge(t *testing.T) {
	for _, policy := range policies {
		for _, flushes := range []int{1, 4, 9, 28} {
			for _, snaps := range []bool{false, true} {
				_, s, _ := rich(t, policy, flushes, snaps)
				count := len(tables(t, s))
				for from := range count {
					for to := from + 1; to <= count; to++ {
						mergeInEachOrder(t, policy, flushes, snaps, from, to)
					}
				}
			}
		}
	}
}

func mergeInEachOrder(t *testing.T, policy int, flushes int, snaps bool, from int, to int) {
	t.Helper()
	for i := range 2 * (to - from) {
		d, s, all := rich(t, policy, flushes, snaps)
		had := given{}
		before := tables(t, s)
		had.see(before)
		proposal := orders(numbersOf(before[from:to]))[i]
		want := slices.Clone(proposal)
		answers(t, "Merge", s.Merge(proposal), api.OK)
		if !slices.Equal(proposal, want) {
			t.Errorf("the proposal was %v, and is %v", want, proposal)
		}
		after := tellsTables(t, s)
		isMerged(t, before, from, to, after, had)
		fewFiles(t, d, s)
		isAsBefore(t, s, all)
		other := open(t, copied(t, d, api.MaxQuota), policy)
		if again := tables(t, other); !slices.Equal(again, after) {
			t.Errorf("Tables was %v, and in the next store is %v", after, again)
		}
		isAsBefore(t, other, all[len(all)-1:])
		answers(t, "Put", s.Put("more", "1"), api.OK)
		inShape(t, s, policy)
		all[len(all)-1]["more"] = "1"
		isAsBefore(t, s, all)
	}
}

// What is in memory stays there, and above what was merged.
func TestMergeLeavesMemoryAlone(t *testing.T) {
	d, s := newStore(t)
	does(t, s, put("a", "1"), put("b", "1"))
	flushes(t, s)
	does(t, s, put("a", "2"), put("c", "2"))
	flushes(t, s)
	does(t, s, put("a", "3"), gone("b"))
	takes(t, s, 1)
	does(t, s, put("a", "4"), put("b", "4"))
	merges(t, s, 0, 2, given{})
	has(t, s, "a", "4", "b", "4", "c", "2")
	kept(t, s, 1, "a", "3", "c", "2")
	flushes(t, s)
	merges(t, s, 0, 2, given{})
	has(t, s, "a", "4", "b", "4", "c", "2")
	kept(t, s, 1, "a", "3", "c", "2")
	has(t, open(t, d, 0), "a", "4", "b", "4", "c", "2")
}

// A deletion stays as long as there is something older that it may hide, and goes with that.
func TestDeletionsThatAreMerged(t *testing.T) {
	for _, policy := range policies {
		d := newDisk(t, api.MaxQuota)
		s := open(t, d, policy)
		does(t, s, put("a", "1"), put("b", "1"))
		flushes(t, s)
		does(t, s, gone("a"), put("c", "1"))
		flushes(t, s)
		does(t, s, gone("c"), gone("d"))
		flushes(t, s)
		had := given{}
		after := merges(t, s, 1, 3, had)
		has(t, s, "b", "1")
		has(t, open(t, copied(t, d, api.MaxQuota), policy), "b", "1")
		if len(after) != 2 {
			t.Fatalf("Tables = %v", after)
		}
		after = merges(t, s, 0, 2, had)
		if len(after) != 1 || after[0].Entries != 1 {
			t.Errorf("Tables = %v", after)
		}
		has(t, s, "b", "1")
	}
}

func TestAMergeOfWhichNothingIsLeft(t *testing.T) {
	for _, policy := range policies {
		d := newDisk(t, api.MaxQuota)
		s := open(t, d, policy)
		does(t, s, put("a", "1"), put("b", "1"))
		flushes(t, s)
		does(t, s, gone("a"), gone("b"))
		flushes(t, s)
		does(t, s, put("c", "1"))
		flushes(t, s)
		does(t, s, put("d", "1"))
		told := tables(t, s)
		had := given{}
		after := merges(t, s, 0, 2, had)
		if !slices.Equal(after, told[2:]) {
			t.Errorf("Tables was %v, and is %v", told, after)
		}
		has(t, s, "c", "1", "d", "1")
		fewFiles(t, d, s)
		does(t, s, gone("c"))
		flushes(t, s)
		does(t, s, gone("d"))
		flushes(t, s)
		merges(t, s, 0, 3, had)
		if told := tables(t, s); len(told) != 0 {
			t.Errorf("Tables = %v", told)
		}
		has(t, s)
		answers(t, "Merge when there is no table", s.Merge([]int{1}), api.ErrArg)
		has(t, open(t, d, policy))
	}
}

// With a snapshot live something is left.
func TestAMergeOfWhichASnapshotSeesSomething(t *testing.T) {
	_, s := newStore(t)
	does(t, s, put("a", "1"))
	flushes(t, s)
	takes(t, s, 1)
	does(t, s, gone("a"))
	flushes(t, s)
	had := given{}
	if told := merges(t, s, 0, 2, had); len(told) != 1 || told[0].Entries != 2 {
		t.Errorf("Tables = %v", told)
	}
	has(t, s)
	kept(t, s, 1, "a", "1")
	answers(t, "Release", s.Release(1), api.OK)
	if told := merges(t, s, 0, 1, had); len(told) != 0 {
		t.Errorf("Tables = %v", told)
	}
	has(t, s)
}

// The merged table is of the level of the oldest, also if that is not the youngest's.
func TestTheLevelOfAMerge(t *testing.T) {
	for _, policy := range policies {
		s := open(t, newDisk(t, api.MaxQuota), policy)
		for i := range 12 {
			does(t, s, put(fmt.Sprint("key", i), "1"))
			flushes(t, s)
		}
		told := tables(t, s)
		edge := slices.IndexFunc(told, func(x api.Table) bool { return x.Level == 0 })
		if edge < 1 || edge > len(told)-2 {
			t.Fatalf("Tables = %v", told)
		}
		after := merges(t, s, edge-1, edge+1, given{})
		if x := after[edge-1]; x.Level != 1 || x.Entries != told[edge-1].Entries+told[edge].Entries {
			t.Errorf("Tables was %v, and is %v", told, after)
		}
	}
}

// A number is new each time, also for one table alone that stays as it is, and also if those before are not there any more.
func TestTheNumbersOfMerges(t *testing.T) {
	for _, policy := range policies {
		d := newDisk(t, api.MaxQuota)
		s := open(t, d, policy)
		had := given{}
		for i := range 40 {
			does(t, s, put(fmt.Sprint(i%5), fmt.Sprint(i)))
			flushes(t, s)
			told := tables(t, s)
			if last := told[len(told)-1]; had[last.Number] {
				t.Fatalf("behind a flush Tables = %v, and these were there before: %v", told, had)
			}
			merges(t, s, len(told)-1, len(told), had)
			if i%4 == 3 {
				merges(t, s, 0, len(tables(t, s)), had)
			}
			if i%10 == 9 {
				does(t, s, put("more", fmt.Sprint(i)))
				if told := compacts(t, s); had[told[0].Number] {
					t.Fatalf("behind Compact Tables = %v, and these were there before: %v", told, had)
				}
			}
		}
		has(t, open(t, d, policy), "0", "35", "1", "36", "2", "37", "3", "38", "4", "39", "more", "39")
	}
}

func TestWhatIsNoProposal(t *testing.T) {
	for _, policy := range policies {
		d := newDisk(t, api.MaxQuota)
		s := open(t, d, policy)
		answers(t, "Merge of nothing", s.Merge(nil), api.ErrArg)
		answers(t, "Merge of no table", s.Merge([]int{0}), api.ErrArg)
		for i := range 4 {
			does(t, s, put(fmt.Sprint(i), "1"))
			flushes(t, s)
		}
		gone := numbersOf(tables(t, s))[2]
		merges(t, s, 2, 3, given{})
		does(t, s, put("memory", "1"))
		told := tables(t, s)
		n := numbersOf(told)
		before := look(d)
		for _, proposal := range [][]int{
			nil, {}, {n[0], n[0]}, {n[1], n[2], n[1]}, {n[0], n[1], n[2], n[3], n[3]}, {n[0], n[2]}, {n[2], n[0]}, {n[3], n[1]}, {n[0], n[1], n[3]}, {n[3], n[0]}, {n[0], n[3], n[2]},
			{gone}, {n[1], gone}, {gone, n[3]}, {n[0], n[1], n[2], n[3], gone}, {0}, {-1}, {-n[0]}, {n[0], -1}, {-1, n[0]}, {-1, 0, n[0]}, {math.MinInt}, {math.MaxInt}, {math.MinInt, math.MaxInt}, {1 << 62}, {n[0] + 1<<32}, {n[3] + 1000},
			slices.Repeat([]int{n[0]}, 100000), append(slices.Clone(n), make([]int, 100000)...),
		} {
			want := slices.Clone(proposal)
			answers(t, fmt.Sprintf("Merge of %.99s", fmt.Sprint(proposal)), s.Merge(proposal), api.ErrArg)
			if !slices.Equal(proposal, want) {
				t.Errorf("the proposal was %.99s, and is %.99s", fmt.Sprint(want), fmt.Sprint(proposal))
			}
			if after := tables(t, s); !slices.Equal(after, told) || look(d) != before {
				t.Fatalf("behind Merge of %v Tables was %v, and is %v", proposal, told, after)
			}
		}
		merges(t, s, 0, 4, given{})
		has(t, s, "0", "1", "1", "1", "2", "1", "3", "1", "memory", "1")
	}
}

// Its spare room is the caller's too.
func TestAProposalIsNeitherChangedNorKept(t *testing.T) {
	_, s := newStore(t)
	for i := range 4 {
		does(t, s, put(fmt.Sprint(i), "1"))
		flushes(t, s)
	}
	told := tables(t, s)
	list := []int{told[2].Number, told[0].Number, told[1].Number, 77, 78, 79}
	want := slices.Clone(list)
	answers(t, "Merge", s.Merge(list[:3]), api.OK)
	if !slices.Equal(list, want) {
		t.Errorf("the list was %v, and is %v", want, list)
	}
	told = tables(t, s)
	for i := range list {
		list[i] = 99
	}
	if again := tables(t, s); !slices.Equal(again, told) {
		t.Errorf("Tables was %v, and is %v", told, again)
	}
}

func TestCompactAndMergeOfAStoreThatCanNotBeWrittenTo(t *testing.T) {
	d := newDisk(t, 600)
	s := open(t, d, api.Tiered)
	does(t, s, put("a", "1"))
	flushes(t, s)
	does(t, s, put("a", "2"))
	flushes(t, s)
	told := tables(t, s)
	for s.Put("a", strings.Repeat("v", 64)) == api.OK {
	}
	proposals := [][]int{nil, {-1}, {told[0].Number}, {told[1].Number, told[0].Number}, {told[0].Number, told[0].Number}}
	refuses := func(want api.Errno) {
		t.Helper()
		answers(t, "Compact", s.Compact(), want)
		for _, proposal := range proposals {
			answers(t, "Merge", s.Merge(proposal), want)
		}
	}
	refuses(api.ErrStuck)
	if again := tables(t, s); !slices.Equal(again, told) {
		t.Errorf("Tables was %v, and is %v", told, again)
	}
	kill(d)
	refuses(api.ErrDead)
	d.Crash(nil)
	refuses(api.ErrClosed)
	u := open(t, d, api.Tiered)
	refuses(api.ErrClosed)
	kill(d)
	refuses(api.ErrClosed)
	answers(t, "Merge", u.Merge(nil), api.ErrDead)
	answers(t, "Compact", u.Compact(), api.ErrDead)
}

// top is a store of which the oldest tables have keys that are all deleted, with younger tables behind them, and tells how many those are.
func top(t *testing.T, policy int) (*strata.Disk, *strata.Store, int) {
	t.Helper()
	d := newDisk(t, api.MaxQuota)
	s := open(t, d, policy)
	for i := range 600 {
		does(t, s, put(fmt.Sprint("key", i), strings.Repeat("v", 64)))
	}
	for i := range 600 {
		does(t, s, gone(fmt.Sprint("key", i)))
	}
	for i := 0; i == 0 || slices.Contains(levels(t, s), 0); i++ {
		does(t, s, gone(fmt.Sprint("none", i)))
		flushes(t, s)
	}
	count := len(tables(t, s))
	for i := range 11 {
		does(t, s, put(fmt.Sprint("more", i), ""))
		flushes(t, s)
	}
	return d, s, count
}

// The shape is right again behind the next batch or flush, also if the highest level went, under which there may be more by the policy Lazy.
func TestTheShapeBehindAMergeOfTheHighestLevel(t *testing.T) {
	calls := map[string]func(*strata.Store) api.Errno{
		"Put":    func(s *strata.Store) api.Errno { return s.Put("new", "1") },
		"Delete": func(s *strata.Store) api.Errno { return s.Delete("new") },
		"Batch":  func(s *strata.Store) api.Errno { return s.Batch([]api.Op{put("new", "1"), gone("new")}) },
		"Flush":  (*strata.Store).Flush,
	}
	for _, policy := range policies {
		for name, call := range calls {
			for _, again := range []bool{false, true} {
				d, s, count := top(t, policy)
				pairs, _ := s.Scan("", "", math.MaxInt)
				merges(t, s, 0, min(count, len(tables(t, s))), given{})
				if got := levels(t, s); policy == api.Lazy && !slices.Equal(got, []int{1, 1, 0}) {
					t.Fatalf("the levels are %v", got)
				}
				has(t, s, flat(pairs)...)
				if again {
					d.Crash(nil)
					s = open(t, d, policy)
				}
				answers(t, name, call(s), api.OK)
				inShape(t, s, policy)
				flushes(t, s)
				inShape(t, s, policy)
				fewFiles(t, d, s)
				answers(t, "Delete", s.Delete("new"), api.OK)
				has(t, s, flat(pairs)...)
			}
		}
	}
}

// P13

// question is a call of P7 to P9, the same for two stores.
type question func(s *strata.Store) string

// asked draws a question, right or wrong.
func asked(r *rand.Rand) question {
	key := func() string { return strings.Repeat("k", r.Intn(18)*r.Intn(2)) + fmt.Sprint(r.Intn(40)) }
	value := strings.Repeat("v", r.Intn(70))
	lo, hi, limit, id := key(), key()[:1], r.Intn(30)-1, r.Intn(40)
	var ops []api.Op
	for range r.Intn(10) {
		ops = append(ops, api.Op{Key: fmt.Sprint(r.Intn(40)), Value: value, Delete: r.Intn(3) == 0})
	}
	switch r.Intn(12) {
	case 0, 1:
		return func(s *strata.Store) string { return fmt.Sprint("Put ", s.Put(lo, value)) }
	case 2:
		return func(s *strata.Store) string { return fmt.Sprint("Delete ", s.Delete(lo)) }
	case 3, 4, 5:
		return func(s *strata.Store) string { return fmt.Sprint("Batch ", s.Batch(ops)) }
	case 6:
		return func(s *strata.Store) string {
			value, ok, e := s.Get(lo)
			return fmt.Sprintf("Get %q %v %d", value, ok, e)
		}
	case 7:
		return func(s *strata.Store) string {
			pairs, e := s.Scan(lo, hi, limit)
			return fmt.Sprintf("Scan %q %d", pairs, e)
		}
	case 8:
		return func(s *strata.Store) string {
			id, e := s.Snapshot()
			return fmt.Sprint("Snapshot ", id, e)
		}
	case 9:
		return func(s *strata.Store) string { return fmt.Sprint("Release ", s.Release(id)) }
	case 10:
		return func(s *strata.Store) string {
			value, ok, e := s.GetAt(id, lo)
			return fmt.Sprintf("GetAt %q %v %d", value, ok, e)
		}
	}
	return func(s *strata.Store) string {
		pairs, e := s.ScanAt(id, lo, "", limit)
		return fmt.Sprintf("ScanAt %q %d", pairs, e)
	}
}

// meddles does what no answer hangs on.
func meddles(t *testing.T, r *rand.Rand, s *strata.Store) {
	t.Helper()
	switch r.Intn(6) {
	case 0, 1:
		flushes(t, s)
	case 2:
		if r.Intn(4) == 0 {
			compacts(t, s)
		}
	case 3:
		answers(t, "Sync", s.Sync(), api.OK)
	default:
		if told := tellsTables(t, s); len(told) > 0 {
			from := r.Intn(len(told))
			merges(t, s, from, from+1+r.Intn(len(told)-from), given{})
		}
	}
}

func TestNoAnswerHangsOnThePolicyOrOnMerging(t *testing.T) {
	for seed := range int64(150) {
		r := rand.New(rand.NewSource(seed))
		one := open(t, newDisk(t, api.MaxQuota), int(seed%3))
		other := open(t, newDisk(t, api.MaxQuota), int(seed/3%3))
		for range 300 {
			ask := asked(r)
			if got, want := ask(one), ask(other); got != want {
				t.Fatalf("with flushes and merges: %s, without: %s", got, want)
			}
			if r.Intn(2) == 0 {
				meddles(t, r, one)
			}
		}
	}
}

// little checks a call on a disk with each room from none on, till it is done.
func little(t *testing.T, policy int, flushes int, call func(*strata.Store) api.Errno) {
	t.Helper()
	for room := 0; ; room += 1 + room/20 {
		d, s, all := rich(t, policy, flushes, true)
		answers(t, "Sync", s.Sync(), api.OK)
		ballast(t, d, richQuota, room)
		before, disk := tables(t, s), look(d)
		e := call(s)
		isAsBefore(t, s, all)
		if e == api.ErrFull && (look(d) != disk || !slices.Equal(tables(t, s), before)) {
			t.Fatalf("behind a refusal the disk was %.999s, and is %.999s", disk, look(d))
		}
		if e != api.OK && e != api.ErrFull {
			t.Fatalf("with room for %d bytes the call = %d", room, e)
		}
		// It is not stuck.
		answers(t, "Sync", s.Sync(), api.OK)
		answers(t, "Remove", d.Remove("ballast"), api.OK)
		fewFiles(t, d, s)
		does(t, s, put("more", "1"))
		all[len(all)-1]["more"] = "1"
		isAsBefore(t, s, all)
		answers(t, "the call once more", call(s), api.OK)
		isAsBefore(t, s, all)
		isAsBefore(t, open(t, d, policy), all[len(all)-1:])
		if e == api.OK {
			if room < 50 || room > 4000 {
				t.Errorf("the call is done with room for %d bytes", room)
			}
			return
		}
	}
}

func TestACompactForWhichThereIsNoRoom(t *testing.T) {
	for _, policy := range policies {
		for _, flushes := range []int{0, 1, 4, 9, 23} {
			little(t, policy, flushes, (*strata.Store).Compact)
		}
	}
}

func TestAMergeForWhichThereIsNoRoom(t *testing.T) {
	for _, policy := range policies {
		for _, flushes := range []int{1, 4, 9, 23} {
			little(t, policy, flushes, func(s *strata.Store) api.Errno {
				return s.Merge(numbersOf(tables(t, s)))
			})
			little(t, policy, flushes, func(s *strata.Store) api.Errno {
				return s.Merge(numbersOf(tables(t, s))[:1])
			})
			little(t, policy, flushes, func(s *strata.Store) api.Errno {
				told := tables(t, s)
				return s.Merge(numbersOf(told)[len(told)/2:])
			})
		}
	}
}

// What a refused call leaves is a store like any other: on a disk of each size, and with the store's own files alone on it.
func TestCompactAndMergeOnADiskOfEachSize(t *testing.T) {
	answered := map[api.Errno]int{}
	for quota := range 700 {
		d, h := newDisk(t, quota), newHistory()
		s := open(t, d, quota%3)
		for i := range 60 {
			ops := []api.Op{put(fmt.Sprint(i%6), strings.Repeat("v", i)), gone(fmt.Sprint(i % 4))}
			e := s.Batch(ops)
			if e == api.OK {
				h.did(ops)
			}
			stuck := e == api.ErrFull
			if i%3 == 0 {
				s.Flush()
			}
			f := s.Compact()
			if told := tables(t, s); i%2 == 0 && len(told) > 0 {
				f = s.Merge(numbersOf(told[i%len(told):]))
			}
			answered[f]++
			if stuck && f != api.ErrStuck || !stuck && f != api.OK && f != api.ErrFull {
				t.Fatalf("the call = %d, behind Batch = %d", f, e)
			}
			h.is(t, s)
			tellsTables(t, s)
			if f == api.OK {
				fewFiles(t, d, s)
			}
			if stuck {
				if s, e = strata.Open(d, quota%3); e != api.OK {
					t.Fatalf("Open = %d", e)
				}
				h.is(t, s)
			}
		}
	}
	if answered[api.OK] == 0 || answered[api.ErrFull] == 0 || answered[api.ErrStuck] == 0 {
		t.Errorf("the calls answered %v", answered)
	}
}

// P15

func TestTheDiskDiesAtEachChangeOfCompact(t *testing.T) {
	for _, policy := range policies {
		for _, count := range []int{0, 1, 4, 24} {
			d, h := layered(t, policy, count)
			ops := []api.Op{put("b", "new"), gone("1"), put("a", "new")}
			diesWithin(t, d, h, policy, ops, func(s *strata.Store, h *history) api.Errno {
				return s.Compact()
			})
		}
	}
}

func TestTheDiskDiesAtEachChangeOfACompactOfWhichNothingIsLeft(t *testing.T) {
	for _, policy := range policies {
		d, h := newDisk(t, api.MaxQuota), newHistory()
		s := open(t, d, policy)
		for i := range 2 {
			ops := []api.Op{put("a", fmt.Sprint(i)), put("b", "1")}
			does(t, s, ops...)
			h.did(ops)
			flushes(t, s)
		}
		h.synced()
		diesWithin(t, d, h, policy, []api.Op{gone("a"), gone("b")}, func(s *strata.Store, h *history) api.Errno {
			return s.Compact()
		})
	}
}

func TestTheDiskDiesAtEachChangeOfMerge(t *testing.T) {
	for _, policy := range policies {
		for _, part := range []func([]int) []int{
			func(n []int) []int { return n },
			func(n []int) []int { return n[:1] },
			func(n []int) []int { return n[:2] },
			func(n []int) []int { return n[1:3] },
			func(n []int) []int { return n[len(n)-2:] },
		} {
			d, h := layered(t, policy, 13)
			ops := []api.Op{put("b", "new"), gone("1"), put("a", "new")}
			diesWithin(t, d, h, policy, ops, func(s *strata.Store, h *history) api.Errno {
				return s.Merge(part(numbersOf(tables(t, s))))
			})
		}
	}
}

func TestTheDiskDiesAtEachChangeOfAMergeOfWhichNothingIsLeft(t *testing.T) {
	for _, policy := range policies {
		d, h := newDisk(t, api.MaxQuota), newHistory()
		s := open(t, d, policy)
		for i := range 4 {
			ops := []api.Op{put("a", fmt.Sprint(i)), put("b", "1")}
			if i%2 == 1 {
				ops = []api.Op{gone("b"), gone("a")}
			}
			does(t, s, ops...)
			h.did(ops)
			flushes(t, s)
		}
		h.synced()
		diesWithin(t, d, h, policy, []api.Op{put("c", "1")}, func(s *strata.Store, h *history) api.Errno {
			return s.Merge(numbersOf(tables(t, s)[:2]))
		})
	}
}

// The disk dies again and again, each time within Compact or Merge, or when the store is opened behind that.
func TestTheDiskDiesAgainAndAgain(t *testing.T) {
	for seed := range int64(400) {
		r := rand.New(rand.NewSource(seed))
		policy := r.Intn(3)
		d, h := layered(t, policy, r.Intn(30))
		s := open(t, d, policy)
		for range 12 {
			ops := []api.Op{put(fmt.Sprint(r.Intn(9)), fmt.Sprint(r.Intn(9))), gone(fmt.Sprint(r.Intn(9)))}
			does(t, s, ops...)
			h.did(ops)
			inShape(t, s, policy)
			told := tables(t, s)
			d.Fuse(r.Intn(12))
			e := api.OK
			if len(told) == 0 || r.Intn(3) == 0 {
				e = s.Compact()
			} else {
				from := r.Intn(len(told))
				e = s.Merge(numbersOf(told[from : from+1+r.Intn(len(told)-from)]))
			}
			if e != api.OK && e != api.ErrDead {
				t.Fatalf("the call = %d", e)
			}
			keep := []int{r.Intn(99) - 9, r.Intn(99) - 9, r.Intn(99) - 9, r.Intn(99) - 9, r.Intn(99) - 9}
			d.Crash(keep)
			s = opened(t, d, h, policy, []int{r.Intn(6), r.Intn(6)}[:r.Intn(3)], keep)
		}
		goesOn(t, d, h, s, policy)
	}
}
