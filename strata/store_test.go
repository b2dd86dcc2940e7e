package strata_test

import (
	"fmt"
	"maps"
	"math"
	"slices"
	"strings"
	"testing"

	"strata/api"
	"strata/strata"
)

var policies = []int{api.Tiered, api.Leveled, api.Lazy}

func open(t *testing.T, d *strata.Disk, policy int) *strata.Store {
	t.Helper()
	s, e := strata.Open(d, policy)
	if s == nil || e != api.OK {
		t.Fatalf("Open(d, %d) = %v, %d", policy, s, e)
	}
	return s
}

func newStore(t *testing.T) (*strata.Disk, *strata.Store) {
	t.Helper()
	d := newDisk(t, api.MaxQuota)
	return d, open(t, d, api.Tiered)
}

func put(key string, value string) api.Op { return api.Op{Key: key, Value: value} }

func gone(key string) api.Op { return api.Op{Key: key, Delete: true} }

// does does a batch that nothing refuses.
func does(t *testing.T, s *strata.Store, ops ...api.Op) {
	t.Helper()
	if e := s.Batch(ops); e != api.OK {
		t.Fatalf("Batch(%v) = %d", ops, e)
	}
}

// has checks the map of a store: a key, its value, and so on.
func has(t *testing.T, s *strata.Store, want ...string) {
	t.Helper()
	pairs, e := s.Scan("", "", math.MaxInt)
	if !slices.Equal(flat(pairs), want) || e != api.OK {
		t.Fatalf("Scan = %q, %d, want %q", pairs, e, want)
	}
	for i := 0; i < len(want); i += 2 {
		finds(t, s, want[i], want[i+1])
	}
}

func finds(t *testing.T, s *strata.Store, key string, want string) {
	t.Helper()
	if value, ok, e := s.Get(key); value != want || !ok || e != api.OK {
		t.Errorf("Get(%q) = %q, %v, %d, want %q", key, value, ok, e, want)
	}
}

func misses(t *testing.T, s *strata.Store, key string, want api.Errno) {
	t.Helper()
	if value, ok, e := s.Get(key); value != "" || ok || e != want {
		t.Errorf("Get(%q) = %q, %v, %d, want nothing, %d", key, value, ok, e, want)
	}
}

func flat(pairs []api.Pair) []string {
	var all []string
	for _, p := range pairs {
		all = append(all, p.Key, p.Value)
	}
	return all
}

// refusesEverything checks that every call of a store answers this error, and nothing with it, at right and wrong inputs.
func refusesEverything(t *testing.T, s *strata.Store, want api.Errno) {
	t.Helper()
	for _, key := range []string{"k", "", strings.Repeat("k", 17)} {
		answers(t, "Put", s.Put(key, "v"), want)
		answers(t, "Delete", s.Delete(key), want)
		answers(t, "Batch", s.Batch([]api.Op{{Key: key}}), want)
		misses(t, s, key, want)
		if value, ok, e := s.GetAt(1, key); value != "" || ok || e != want {
			t.Errorf("GetAt = %q, %v, %d, want nothing, %d", value, ok, e, want)
		}
	}
	for _, limit := range []int{-1, 0, 1} {
		if pairs, e := s.Scan("", "", limit); pairs != nil || e != want {
			t.Errorf("Scan = %v, %d, want nil, %d", pairs, e, want)
		}
		if pairs, e := s.ScanAt(1, "", "", limit); pairs != nil || e != want {
			t.Errorf("ScanAt = %v, %d, want nil, %d", pairs, e, want)
		}
	}
	if id, e := s.Snapshot(); id != 0 || e != want {
		t.Errorf("Snapshot = %d, %d, want 0, %d", id, e, want)
	}
	if tables, e := s.Tables(); tables != nil || e != want {
		t.Errorf("Tables = %v, %d, want nil, %d", tables, e, want)
	}
	answers(t, "Batch of nothing", s.Batch(nil), want)
	answers(t, "Release", s.Release(1), want)
	answers(t, "Flush", s.Flush(), want)
	answers(t, "Compact", s.Compact(), want)
	for _, proposal := range [][]int{nil, {}, {1}, {1, 1}, {-1}} {
		answers(t, "Merge", s.Merge(proposal), want)
	}
	answers(t, "Sync", s.Sync(), want)
}

// copied is another disk with the same files, all of them safe.
func copied(t *testing.T, d *strata.Disk, quota int) *strata.Disk {
	t.Helper()
	other := newDisk(t, quota)
	names, e := d.Names()
	answers(t, "Names", e, api.OK)
	for _, name := range names {
		bytes, e := d.Read(name)
		answers(t, "Read", e, api.OK)
		answers(t, "Write of a copy", other.Write(name, bytes), api.OK)
		answers(t, "Sync of a copy", other.Sync(name), api.OK)
	}
	return other
}

// size is how many bytes all files have together.
func size(t *testing.T, d *strata.Disk) int {
	t.Helper()
	names, e := d.Names()
	answers(t, "Names", e, api.OK)
	n := 0
	for _, name := range names {
		bytes, _ := d.Read(name)
		n += len(bytes)
	}
	return n
}

// P1

func TestEveryCallOfAStoreEndsOnEveryInput(t *testing.T) {
	numbers := []int{math.MinInt, -1, 0, 1, 2, math.MaxInt}
	texts := []string{"", "a", "\x00", "\xff\xff", strings.Repeat("k", 16), strings.Repeat("k", 17), strings.Repeat("v", 64), strings.Repeat("v", 65), strings.Repeat("v", 100000)}
	lists := [][]int{nil, {}, numbers, {1, 1}, {1, 2, 3}, make([]int, 100000)}
	none, _ := strata.Open(nil, 0)
	closedDisk, closed := newStore(t)
	closedDisk.Crash(nil)
	deadDisk, dead := newStore(t)
	kill(deadDisk)
	stuck := open(t, newDisk(t, 0), 0)
	stuck.Put("a", "")
	_, whole := newStore(t)
	for _, s := range []*strata.Store{none, closed, dead, stuck, whole, new(strata.Store)} {
		for _, a := range texts {
			for _, b := range texts {
				s.Put(a, b)
				s.Batch([]api.Op{{Key: a, Value: b}, {Key: b, Value: a, Delete: true}})
				for _, n := range numbers {
					s.Scan(a, b, n)
					s.ScanAt(n, a, b, n)
				}
			}
			s.Get(a)
			s.Delete(a)
		}
		for _, n := range numbers {
			s.Snapshot()
			s.Release(n)
			s.GetAt(n, "a")
		}
		for _, l := range lists {
			s.Merge(l)
			s.Tables()
			s.Flush()
			s.Compact()
			s.Sync()
		}
		s.Batch(nil)
		s.Batch(make([]api.Op, 100000))
	}
	for _, n := range numbers {
		strata.Open(new(strata.Disk), n)
		strata.Open(newDisk(t, 0), n)
	}
}

func TestTheStoreThatIsNoneIsNotOpen(t *testing.T) {
	s, _ := strata.Open(nil, api.Tiered)
	refusesEverything(t, s, api.ErrClosed)
}

// P2

func TestAStoreKeepsNothingThatIsHandedIn(t *testing.T) {
	d, s := newStore(t)
	key, value := strings.Clone("key"), strings.Clone("value")
	answers(t, "Put", s.Put(key, value), api.OK)
	overwrite(key)
	overwrite(value)
	key, value = strings.Clone("other"), strings.Clone("more")
	ops := []api.Op{{Key: key, Value: value}, {Key: "x"}}
	answers(t, "Batch", s.Batch(ops), api.OK)
	overwrite(key)
	overwrite(value)
	ops[1].Key = "mine"
	has(t, s, "key", "value", "other", "more", "x", "")
	has(t, open(t, d, 0), "key", "value", "other", "more", "x", "")
}

func TestAStoreChangesNothingThatIsHandedIn(t *testing.T) {
	_, s := newStore(t)
	ops := []api.Op{put("b", "1"), {Key: "a", Value: "2", Delete: true}, put("b", "3"), put("room", "room"), put("room", "room")}
	before := slices.Clone(ops)
	does(t, s, ops[:3]...)
	answers(t, "Batch", s.Batch(ops[:3]), api.OK)
	s.Scan("a", "b", 1)
	s.Get("b")
	if !slices.Equal(ops, before) {
		t.Errorf("the ops behind Batch: %v", ops)
	}
}

func TestAnAnswerOfAStoreIsNewMemory(t *testing.T) {
	d, s := newStore(t)
	for _, key := range []string{"a", "b", "c"} {
		does(t, s, put(key, "value of "+key))
	}
	earlier, _ := s.Scan("", "", 9)
	value, _, _ := s.Get("a")
	overwrite(value)
	pairs, _ := s.Scan("", "", 9)
	for _, p := range pairs {
		overwrite(p.Key)
		overwrite(p.Value)
	}
	pairs = pairs[:cap(pairs)]
	for i := range pairs {
		pairs[i] = api.Pair{Key: "mine", Value: "mine"}
	}
	want := []string{"a", "value of a", "b", "value of b", "c", "value of c"}
	if !slices.Equal(flat(earlier), want) {
		t.Errorf("an answer given before: %q", earlier)
	}
	has(t, s, want...)
	has(t, open(t, d, 0), want...)
}

// P6

func TestOpenRefusesNoDiskAndNoPolicy(t *testing.T) {
	d, s := newStore(t)
	dead := newDisk(t, 9)
	kill(dead)
	foreign := newDisk(t, 9)
	foreign.Write("foreign", "")
	for _, policy := range []int{math.MinInt, -1, 0, 1, 2, 3, 4, math.MaxInt} {
		if u, e := strata.Open(nil, policy); u != nil || e != api.ErrArg {
			t.Errorf("Open(nil, %d) = %v, %d, want nil, %d", policy, u, e, api.ErrArg)
		}
		if policy >= 0 && policy <= 2 {
			continue
		}
		for _, d := range []*strata.Disk{d, dead, foreign} {
			if u, e := strata.Open(d, policy); u != nil || e != api.ErrArg {
				t.Errorf("Open(d, %d) = %v, %d, want nil, %d", policy, u, e, api.ErrArg)
			}
		}
	}
	answers(t, "Put behind an Open that could not be", s.Put("a", "1"), api.OK)
	has(t, s, "a", "1")
}

func TestOpenOfADeadDisk(t *testing.T) {
	d := newDisk(t, 9)
	kill(d)
	for _, policy := range policies {
		if s, e := strata.Open(d, policy); s != nil || e != api.ErrDead {
			t.Errorf("Open of a dead disk = %v, %d, want nil, %d", s, e, api.ErrDead)
		}
	}
}

func TestADiskWithoutFilesIsAnEmptyStores(t *testing.T) {
	for _, policy := range policies {
		d := newDisk(t, 8192)
		for range 200 {
			has(t, open(t, d, policy))
		}
	}
}

func TestAStoreIsOpenTillItsDiskCrashes(t *testing.T) {
	d, s := newStore(t)
	_, other := newStore(t)
	does(t, s, put("a", "1"))
	d.Crash([]int{99})
	refusesEverything(t, s, api.ErrClosed)
	kill(d)
	refusesEverything(t, s, api.ErrClosed)
	has(t, other)
	answers(t, "Put to a store on another disk", other.Put("a", "1"), api.OK)
	d.Crash(nil)
	refusesEverything(t, s, api.ErrClosed)
	has(t, open(t, d, 0), "a", "1")
	refusesEverything(t, s, api.ErrClosed)
}

func TestAStoreIsOpenTillItsDiskIsOpenedAgain(t *testing.T) {
	d, s := newStore(t)
	does(t, s, put("a", "1"))
	u := open(t, d, api.Lazy)
	refusesEverything(t, s, api.ErrClosed)
	does(t, u, put("b", "2"))
	has(t, u, "a", "1", "b", "2")
	d.Fuse(0)
	answers(t, "Put with the fuse at its end", u.Put("c", "3"), api.ErrDead)
	refusesEverything(t, u, api.ErrDead)
	refusesEverything(t, s, api.ErrClosed)
	if v, e := strata.Open(d, api.Tiered); v != nil || e != api.ErrDead {
		t.Errorf("Open = %v, %d, want nil, %d", v, e, api.ErrDead)
	}
	refusesEverything(t, u, api.ErrClosed)
}

func TestAnOpenThatIsRefusedEndsTheStoreBefore(t *testing.T) {
	d, s := newStore(t)
	does(t, s, put("a", "1"))
	d.Write("foreign", "")
	if u, e := strata.Open(d, 0); u != nil || e != api.ErrBroken {
		t.Errorf("Open = %v, %d, want nil, %d", u, e, api.ErrBroken)
	}
	refusesEverything(t, s, api.ErrClosed)
	d.Remove("foreign")
	has(t, open(t, d, 0), "a", "1")
	refusesEverything(t, s, api.ErrClosed)
}

func TestAStoreThatIsOpenedHasTheMapOfTheOneBefore(t *testing.T) {
	for _, before := range policies {
		for _, policy := range policies {
			d := newDisk(t, api.MaxQuota)
			s := open(t, d, before)
			does(t, s, put("b", "1"), put("a", ""), put("c", "3"))
			does(t, s, gone("b"), put("\x00\xff", strings.Repeat("\xff", 64)))
			does(t, s, put("c", "4"), gone("none"))
			want := []string{"\x00\xff", strings.Repeat("\xff", 64), "a", "", "c", "4"}
			has(t, open(t, d, policy), want...)
			u := open(t, d, before)
			has(t, u, want...)
			does(t, u, gone("a"), gone("c"), gone("\x00\xff"))
			has(t, open(t, d, policy))
		}
	}
}

func TestOpenAgainAndAgainTakesNoRoom(t *testing.T) {
	d, s := newStore(t)
	does(t, s, put("a", "1"), put("b", "2"))
	answers(t, "Sync", s.Sync(), api.OK)
	before := size(t, d)
	for i := range 300 {
		has(t, open(t, d, i%3), "a", "1", "b", "2")
		d.Crash([]int{i})
	}
	if after := size(t, d); after > before {
		t.Errorf("all files had %d bytes, and have %d", before, after)
	}
}

func TestACopyOfTheFilesIsLikeTheDisk(t *testing.T) {
	d, s := newStore(t)
	has(t, open(t, copied(t, d, 8192), 0))
	does(t, s, put("a", "1"), put("b", "2"))
	answers(t, "Sync", s.Sync(), api.OK)
	does(t, s, gone("a"), put("c", "3"))
	other := copied(t, d, api.MaxQuota)
	does(t, s, put("d", "4"))
	u := open(t, other, api.Leveled)
	has(t, u, "b", "2", "c", "3")
	does(t, u, put("e", "5"))
	has(t, s, "b", "2", "c", "3", "d", "4")
	d.Crash([]int{20, 20, 20})
	broken := copied(t, d, api.MaxQuota)
	has(t, open(t, broken, 0), "b", "2", "c", "3")
	has(t, open(t, d, 0), "b", "2", "c", "3")
}

func TestFilesOfOthersAreBroken(t *testing.T) {
	for _, name := range []string{"a", "other", "log", "log.", "log.00", "log.2", "log.10", "logs", ".", "table", "table.", "table.01", "table.4", "table.zzzzzzzzzzzzzz", "tables.1", "manifest.", "manifest.1", "begun.1", "1"} {
		d, s := newStore(t)
		does(t, s, put("a", "1"))
		answers(t, "Flush", s.Flush(), api.OK)
		does(t, s, put("b", "2"))
		d.Write(name, "something")
		before := look(d)
		if u, e := strata.Open(d, 0); u != nil || e != api.ErrBroken {
			t.Errorf("Open beside the file %q = %v, %d, want nil, %d", name, u, e, api.ErrBroken)
		}
		if after := look(d); after != before {
			t.Errorf("the disk was %s, and is %s", before, after)
		}
	}
}

// tampered calls a function with disks on which the files of a store were changed by another hand.
func tampered(t *testing.T, d *strata.Disk, use func(*strata.Disk)) {
	t.Helper()
	names, _ := d.Names()
	for _, victim := range names {
		bytes, _ := d.Read(victim)
		for i := range len(bytes) + 1 {
			changed := []string{bytes[:i], bytes[i:], bytes[:i] + "\x00" + bytes[i:], bytes[:i] + bytes}
			if i < len(bytes) {
				changed = append(changed, bytes[:i]+string([]byte{bytes[i] ^ 1})+bytes[i+1:], bytes[:i]+string([]byte{^bytes[i]})+bytes[i+1:])
			}
			for _, c := range changed {
				other := copied(t, d, api.MaxQuota)
				other.Remove(victim)
				other.Write(victim, c)
				use(other)
			}
		}
	}
}

func TestOpenOfADiskThatAnotherHandChanged(t *testing.T) {
	d, s := newStore(t)
	does(t, s, put("a", "1"), put("b", "2"))
	does(t, s, gone("a"))
	answers(t, "Flush", s.Flush(), api.OK)
	does(t, s, put("a", "3"), gone("b"))
	answers(t, "Flush", s.Flush(), api.OK)
	does(t, s, put("c", strings.Repeat("v", 64)))
	answered := map[api.Errno]int{}
	tampered(t, d, func(other *strata.Disk) {
		before := look(other)
		u, e := strata.Open(other, api.Tiered)
		answered[e]++
		if (u == nil) != (e != api.OK) || e != api.OK && e != api.ErrBroken && e != api.ErrFull {
			t.Errorf("Open = %v, %d", u, e)
		}
		if after := look(other); e == api.ErrBroken && after != before {
			t.Errorf("the disk was %s, and is %s", before, after)
		}
		u.Put("d", "4")
		u.Get("a")
		u.Scan("", "", 9)
		u.Sync()
		u.Tables()
		u.Flush()
		strata.Open(other, api.Lazy)
	})
	if answered[api.OK] == 0 || answered[api.ErrBroken] == 0 {
		t.Errorf("Open answered %v", answered)
	}
}

func TestOpenOfADiskOfWhichAnotherHandTookAFile(t *testing.T) {
	base, s := newStore(t)
	for i := range 3 {
		does(t, s, put(fmt.Sprint(i), "1"))
		answers(t, "Flush", s.Flush(), api.OK)
	}
	does(t, s, put("c", "1"))
	names, _ := base.Names()
	for _, name := range names {
		d := copied(t, base, api.MaxQuota)
		d.Remove(name)
		before := look(d)
		u, e := strata.Open(d, api.Tiered)
		if (u == nil) != (e != api.OK) || e != api.OK && e != api.ErrBroken {
			t.Errorf("without the file %q: Open = %v, %d", name, u, e)
		}
		if after := look(d); after != before {
			t.Errorf("the disk was %s, and is %s", before, after)
		}
		u.Scan("", "", 9)
		u.Flush()
	}
}

func TestReadingChangesNothingOnTheDisk(t *testing.T) {
	d, s := newStore(t)
	does(t, s, put("a", "1"), put("b", "2"))
	answers(t, "Flush", s.Flush(), api.OK)
	does(t, s, put("c", "3"))
	d.Fuse(0)
	before := look(d)
	for range 3 {
		has(t, s, "a", "1", "b", "2", "c", "3")
		misses(t, s, "d", api.OK)
		misses(t, s, "", api.ErrArg)
		s.Scan("", "", -1)
		s.Snapshot()
		s.GetAt(1, "a")
		s.ScanAt(1, "", "", 9)
		s.Release(1)
		s.Tables()
	}
	if after := look(d); after != before {
		t.Errorf("the disk was %s, and is %s", before, after)
	}
}

func TestADiskTakesWhatFitsOnItAndNoMore(t *testing.T) {
	plan := func(s *strata.Store) (api.Errno, int) {
		for i := range 20 {
			if e := s.Batch([]api.Op{put(fmt.Sprint("key", i%3), strings.Repeat("v", i)), gone(fmt.Sprint("key", i%4))}); e != api.OK {
				return e, i
			}
		}
		return api.OK, 20
	}
	d, s := newStore(t)
	plan(s)
	whole := size(t, d)
	for quota := range whole + 1 {
		s, e := strata.Open(newDisk(t, quota), api.Tiered)
		if e == api.ErrFull {
			continue
		}
		answers(t, "Open", e, api.OK)
		e, done := plan(s)
		if (e == api.OK) != (quota == whole) || e != api.OK && e != api.ErrFull {
			t.Errorf("with a quota of %d, where %d are taken, %d batches were done, and then came %d", quota, whole, done, e)
		}
	}
}

// P7

func TestPutAndDelete(t *testing.T) {
	d, s := newStore(t)
	long, value := strings.Repeat("k", api.MaxKey), strings.Repeat("v", api.MaxValue)
	answers(t, "Put", s.Put("b", "1"), api.OK)
	answers(t, "Put of the longest", s.Put(long, value), api.OK)
	answers(t, "Put of an empty value", s.Put("a", ""), api.OK)
	has(t, s, "a", "", "b", "1", long, value)
	answers(t, "Put of another value", s.Put("b", "2"), api.OK)
	answers(t, "Delete", s.Delete(long), api.OK)
	answers(t, "Delete of what is not there", s.Delete(long), api.OK)
	answers(t, "Delete of what never was there", s.Delete("c"), api.OK)
	has(t, s, "a", "", "b", "2")
	answers(t, "Put of what was deleted", s.Put(long, "3"), api.OK)
	has(t, s, "a", "", "b", "2", long, "3")
	has(t, open(t, d, 0), "a", "", "b", "2", long, "3")
}

func TestABatchIsDoneOpByOp(t *testing.T) {
	d, s := newStore(t)
	does(t, s, put("a", "1"), put("a", "2"), gone("b"), put("b", "3"), put("c", "4"), gone("c"), put("d", "5"), put("\xff", "6"))
	has(t, s, "a", "2", "b", "3", "d", "5", "\xff", "6")
	does(t, s, gone("d"), put("d", ""), gone("a"), gone("a"))
	has(t, s, "b", "3", "d", "", "\xff", "6")
	has(t, open(t, d, 0), "b", "3", "d", "", "\xff", "6")
}

func TestTheValueOfADeleteMeansNothing(t *testing.T) {
	d, s := newStore(t)
	does(t, s, put("a", "1"), put("b", "2"))
	for _, value := range []string{"", "x", strings.Repeat("v", api.MaxValue+1), strings.Repeat("v", 100000)} {
		does(t, s, api.Op{Key: "a", Value: value, Delete: true})
		has(t, s, "b", "2")
	}
	has(t, open(t, d, 0), "b", "2")
}

func TestEveryByteMayBeInAKeyAndAValue(t *testing.T) {
	d, s := newStore(t)
	var want []string
	for c := range 256 {
		text := string([]byte{byte(c)})
		does(t, s, put(text, text+text))
		want = append(want, text, text+text)
	}
	has(t, s, want...)
	has(t, open(t, d, 0), want...)
}

func TestWhatIsNoBatchIsRefused(t *testing.T) {
	d, s := newStore(t)
	does(t, s, put("a", "1"))
	before := look(d)
	long, value := strings.Repeat("k", api.MaxKey+1), strings.Repeat("v", api.MaxValue+1)
	d.Fuse(0)
	for _, key := range []string{"", long, strings.Repeat("k", 256+1), strings.Repeat("k", 65536+1)} {
		answers(t, "Put of no key", s.Put(key, "1"), api.ErrArg)
		answers(t, "Delete of no key", s.Delete(key), api.ErrArg)
		answers(t, "Batch with no key", s.Batch([]api.Op{put("b", "2"), put(key, "1"), put("c", "3")}), api.ErrArg)
		answers(t, "Batch that deletes no key", s.Batch([]api.Op{put("b", "2"), gone(key)}), api.ErrArg)
	}
	answers(t, "Put of no value", s.Put("b", value), api.ErrArg)
	answers(t, "Put of a value much too long", s.Put("b", strings.Repeat("v", 256)), api.ErrArg)
	answers(t, "Batch with no value", s.Batch([]api.Op{put("b", "2"), put("c", value)}), api.ErrArg)
	answers(t, "Batch of nothing", s.Batch(nil), api.ErrArg)
	answers(t, "Batch of nothing", s.Batch([]api.Op{}), api.ErrArg)
	answers(t, "Batch of too many", s.Batch(slices.Repeat([]api.Op{put("b", "2")}, api.MaxBatch+1)), api.ErrArg)
	answers(t, "Batch of far too many", s.Batch(slices.Repeat([]api.Op{put("b", "2")}, 1000)), api.ErrArg)
	if after := look(d); after != before {
		t.Errorf("the disk was %s, and is %s", before, after)
	}
	has(t, s, "a", "1")
	d.Fuse(-1)
	does(t, s, slices.Repeat([]api.Op{put("b", "2")}, api.MaxBatch)...)
	has(t, open(t, d, 0), "a", "1", "b", "2")
}

// stick makes a store stuck that has the map a 1, and tells its disk.
func stick(t *testing.T) (*strata.Disk, *strata.Store) {
	t.Helper()
	d := newDisk(t, 100)
	s := open(t, d, 0)
	does(t, s, put("a", "1"))
	answers(t, "Put of too much", s.Put("a", strings.Repeat("v", 50)), api.OK)
	answers(t, "Put of too much", s.Put("a", strings.Repeat("w", 50)), api.ErrFull)
	return d, s
}

func TestAStoreThatIsStuck(t *testing.T) {
	d, s := stick(t)
	value := strings.Repeat("v", 50)
	before := look(d)
	for _, key := range []string{"b", ""} {
		answers(t, "Put", s.Put(key, ""), api.ErrStuck)
		answers(t, "Delete", s.Delete(key), api.ErrStuck)
		answers(t, "Batch", s.Batch([]api.Op{gone(key)}), api.ErrStuck)
	}
	answers(t, "Batch of nothing", s.Batch(nil), api.ErrStuck)
	answers(t, "Sync", s.Sync(), api.ErrStuck)
	answers(t, "Flush", s.Flush(), api.ErrStuck)
	answers(t, "Compact", s.Compact(), api.ErrStuck)
	answers(t, "Merge", s.Merge(nil), api.ErrStuck)
	has(t, s, "a", value)
	misses(t, s, "b", api.OK)
	misses(t, s, "", api.ErrArg)
	if after := look(d); after != before {
		t.Errorf("the disk was %s, and is %s", before, after)
	}
	u := open(t, d, 0)
	has(t, u, "a", value)
	refusesEverything(t, s, api.ErrClosed)
	answers(t, "Put to the next store", u.Put("b", ""), api.OK)
	has(t, u, "a", value, "b", "")
}

func TestAStoreThatIsStuckOnADeadDisk(t *testing.T) {
	d, s := stick(t)
	kill(d)
	refusesEverything(t, s, api.ErrDead)
	d.Crash(nil)
	refusesEverything(t, s, api.ErrClosed)
}

func TestABatchThatDidNotFitNeverWas(t *testing.T) {
	d, _ := stick(t)
	d.Crash([]int{99, 99, 99})
	has(t, open(t, d, 0), "a", strings.Repeat("v", 50))
}

// P8

func TestGet(t *testing.T) {
	_, s := newStore(t)
	does(t, s, put("a", "1"), put("ab", ""), put(strings.Repeat("k", 16), "3"))
	finds(t, s, "a", "1")
	finds(t, s, "ab", "")
	finds(t, s, strings.Repeat("k", 16), "3")
	for _, key := range []string{"b", "A", "abc", "a\x00", strings.Repeat("k", 15), strings.Repeat("l", 16)} {
		misses(t, s, key, api.OK)
	}
	for _, key := range []string{"", strings.Repeat("k", 17), strings.Repeat("k", 100000)} {
		misses(t, s, key, api.ErrArg)
	}
}

func TestScan(t *testing.T) {
	_, s := newStore(t)
	all := []string{"\x00", "a", "a\x00", "aa", "ab", "b", "c", "\x7f", "\x80", "\xff", "\xff\xff"}
	for _, i := range []int{5, 1, 8, 3, 0, 10, 6, 2, 9, 7, 4} {
		does(t, s, put(all[i], all[i]+"!"))
	}
	bounds := append(slices.Clone(all), "", "0", "aaa", "bb", strings.Repeat("z", 99), "\xff\xff\xff", strings.Repeat("\x00", 17))
	for _, lo := range bounds {
		for _, hi := range bounds {
			for _, limit := range []int{0, 1, 2, 3, 10, 11, 12, 1 << 40, math.MaxInt} {
				var want []string
				for _, key := range all {
					if key >= lo && (hi == "" || key < hi) && len(want) < 2*min(limit, 100) {
						want = append(want, key, key+"!")
					}
				}
				pairs, e := s.Scan(lo, hi, limit)
				if !slices.Equal(flat(pairs), want) || e != api.OK {
					t.Errorf("Scan(%q, %q, %d) = %q, %d, want %q", lo, hi, limit, pairs, e, want)
				}
			}
			for _, limit := range []int{-1, math.MinInt} {
				if pairs, e := s.Scan(lo, hi, limit); pairs != nil || e != api.ErrArg {
					t.Errorf("Scan(%q, %q, %d) = %q, %d, want nil, %d", lo, hi, limit, pairs, e, api.ErrArg)
				}
			}
		}
	}
}

func TestScanOfManyKeys(t *testing.T) {
	d, s := newStore(t)
	want := map[string]string{}
	for i := range 2000 {
		key := fmt.Sprint(i * 7919 % 2003)
		want[key] = fmt.Sprint(i)
		does(t, s, put(key, want[key]))
	}
	var all []string
	for _, key := range slices.Sorted(maps.Keys(want)) {
		all = append(all, key, want[key])
	}
	has(t, s, all...)
	has(t, open(t, d, api.Leveled), all...)
}

// P14

func TestWhatWasSyncedIsSafe(t *testing.T) {
	d, s := newStore(t)
	answers(t, "Sync of nothing", s.Sync(), api.OK)
	does(t, s, put("a", "1"), put("b", "2"))
	does(t, s, gone("a"), put("c", "3"))
	answers(t, "Sync", s.Sync(), api.OK)
	answers(t, "Sync of nothing new", s.Sync(), api.OK)
	d.Crash(nil)
	s = open(t, d, 0)
	has(t, s, "b", "2", "c", "3")
	answers(t, "Sync of nothing new", s.Sync(), api.OK)
	does(t, s, gone("b"))
	answers(t, "Sync", s.Sync(), api.OK)
	does(t, s, put("d", "4"))
	answers(t, "Sync", s.Sync(), api.OK)
	d.Crash(nil)
	has(t, open(t, d, 0), "c", "3", "d", "4")
}

func TestWhatAStoreHasWhenItIsOpenedIsSafe(t *testing.T) {
	d, s := newStore(t)
	does(t, s, put("a", "1"))
	does(t, s, put("b", "2"))
	s = open(t, d, 0)
	d.Crash(nil)
	s = open(t, d, 0)
	has(t, s, "a", "1", "b", "2")
	does(t, s, put("c", "3"))
	does(t, s, put("d", "4"))
	d.Crash([]int{12, 12, 12})
	s = open(t, d, 0)
	pairs, _ := s.Scan("", "", 9)
	does(t, s, put("e", "5"))
	d.Crash(nil)
	has(t, open(t, d, 0), flat(pairs)...)
}

func TestSyncOfADiskThatDies(t *testing.T) {
	d, s := newStore(t)
	does(t, s, put("a", "1"))
	d.Fuse(0)
	answers(t, "Sync", s.Sync(), api.ErrDead)
	refusesEverything(t, s, api.ErrDead)
	d.Crash(nil)
	has(t, open(t, d, 0))
}

// The document's examples of the store.
func TestExamplesOfTheStore(t *testing.T) {
	d, s := newStore(t)
	answers(t, `Put("b", "1")`, s.Put("b", "1"), api.OK)
	answers(t, `Put("a", "2")`, s.Put("a", "2"), api.OK)
	has(t, s, "a", "2", "b", "1")
	takes(t, s, 1)
	answers(t, `Delete("b")`, s.Delete("b"), api.OK)
	misses(t, s, "b", api.OK)
	if value, ok, e := s.GetAt(1, "b"); value != "1" || !ok || e != api.OK {
		t.Errorf(`GetAt(1, "b") = %q, %v, %d`, value, ok, e)
	}
	answers(t, "Flush()", s.Flush(), api.OK)
	if told := tables(t, s); len(told) != 1 || told[0].Level != 0 {
		t.Errorf("Tables() = %v", told)
	}
	if pairs, e := s.Scan("a", "b", 9); !slices.Equal(flat(pairs), []string{"a", "2"}) || e != api.OK {
		t.Errorf(`Scan("a", "b", 9) = %q, %d`, pairs, e)
	}
	if pairs, e := s.Scan("", "", 0); len(pairs) != 0 || e != api.OK {
		t.Errorf(`Scan("", "", 0) = %q, %d`, pairs, e)
	}
	if pairs, e := s.Scan("", "", -1); pairs != nil || e != api.ErrArg {
		t.Errorf(`Scan("", "", -1) = %q, %d`, pairs, e)
	}
	answers(t, `Put("", "1")`, s.Put("", "1"), api.ErrArg)
	answers(t, "Release(1)", s.Release(1), api.OK)
	if value, ok, e := s.GetAt(1, "b"); value != "" || ok || e != api.ErrSnap {
		t.Errorf(`GetAt(1, "b") = %q, %v, %d`, value, ok, e)
	}
	answers(t, "Compact()", s.Compact(), api.OK)
	if told := tables(t, s); len(told) != 1 || told[0].Entries != 1 {
		t.Errorf("Tables() = %v", told)
	}
	answers(t, `Put("c", "3")`, s.Put("c", "3"), api.OK)
	answers(t, "Sync()", s.Sync(), api.OK)
	answers(t, `Put("d", "4")`, s.Put("d", "4"), api.OK)
	d.Crash(nil)
	refusesEverything(t, s, api.ErrClosed)
	s = open(t, d, 0)
	finds(t, s, "c", "3")
	if value, ok, e := s.Get("d"); ok && value != "4" || !ok && value != "" || e != api.OK {
		t.Errorf(`Get("d") = %q, %v, %d`, value, ok, e)
	}
}
