package strata_test

import (
	"math"
	"slices"
	"strings"
	"testing"
	"unsafe"

	"strata/api"
	"strata/strata"
)

func newDisk(t *testing.T, quota int) *strata.Disk {
	t.Helper()
	d, e := strata.NewDisk(quota)
	if d == nil || e != api.OK {
		t.Fatalf("NewDisk(%d) = %v, %d", quota, d, e)
	}
	return d
}

func answers(t *testing.T, what string, got api.Errno, want api.Errno) {
	t.Helper()
	if got != want {
		t.Errorf("%s = %d, want %d", what, got, want)
	}
}

func holds(t *testing.T, d *strata.Disk, name string, want string, wantSafe int) {
	t.Helper()
	bytes, e := d.Read(name)
	if bytes != want || e != api.OK {
		t.Errorf("Read(%q) = %q, %d, want %q", name, bytes, e, want)
	}
	safe, e := d.Safe(name)
	if safe != wantSafe || e != api.OK {
		t.Errorf("Safe(%q) = %d, %d, want %d", name, safe, e, wantSafe)
	}
}

func lists(t *testing.T, d *strata.Disk, want ...string) {
	t.Helper()
	names, e := d.Names()
	if !slices.Equal(names, want) || e != api.OK {
		t.Errorf("Names() = %q, %d, want %q", names, e, want)
	}
}

// refusesAll checks that every call that can answer an error answers this one, and nothing with it.
func refusesAll(t *testing.T, d *strata.Disk, name string, want api.Errno) {
	t.Helper()
	answers(t, "Write", d.Write(name, "x"), want)
	answers(t, "Sync", d.Sync(name), want)
	answers(t, "Rename", d.Rename(name, "to"), want)
	answers(t, "Remove", d.Remove(name), want)
	readsNothing(t, d, name, want)
	if names, e := d.Names(); names != nil || e != want {
		t.Errorf("Names() = %q, %d, want nil, %d", names, e, want)
	}
}

func readsNothing(t *testing.T, d *strata.Disk, name string, want api.Errno) {
	t.Helper()
	if bytes, e := d.Read(name); bytes != "" || e != want {
		t.Errorf("Read(%q) = %q, %d, want nothing, %d", name, bytes, e, want)
	}
	if safe, e := d.Safe(name); safe != 0 || e != want {
		t.Errorf("Safe(%q) = %d, %d, want 0, %d", name, safe, e, want)
	}
}

// noNames are texts that are no file's name: too short, too long, or with a byte next to the allowed ones.
func noNames() []string {
	return []string{
		"", "A", "Z", "-", "/", ":", "`", "{", "_", " ", "a b", "a/", "aA", "\x00", "a\x00", "\n",
		"ä", "\xff", "\x80", strings.Repeat("a", api.MaxName+1), strings.Repeat("a", 100000),
	}
}

func kill(d *strata.Disk) {
	d.Fuse(0)
	d.Write("deadly", "")
}

// P1

func TestEveryCallEndsOnEveryInput(t *testing.T) {
	numbers := []int{math.MinInt, math.MinInt + 1, -2, -1, 0, 1, 2, math.MaxInt - 1, math.MaxInt}
	texts := append(noNames(), "a", "b.", "deadly", strings.Repeat("z", api.MaxName))
	lists := [][]int{nil, {}, numbers, slices.Repeat(numbers, 1000)}
	none, _ := strata.NewDisk(-1)
	dead := newDisk(t, 9)
	kill(dead)
	for _, d := range []*strata.Disk{newDisk(t, 0), newDisk(t, 9), newDisk(t, api.MaxQuota), dead, none} {
		for _, n := range numbers {
			d.Fuse(n)
			for _, a := range texts {
				for _, b := range texts {
					d.Write(a, b)
					d.Rename(a, b)
				}
				d.Sync(a)
				d.Read(a)
				d.Safe(a)
				d.Names()
				d.Remove(a)
			}
			d.Crash(lists[max(n, 0)%len(lists)])
		}
	}
	for _, n := range numbers {
		strata.NewDisk(n)
	}
}

func TestTheDiskThatIsNoneRefuses(t *testing.T) {
	d, _ := strata.NewDisk(-1)
	d.Fuse(1)
	d.Crash([]int{1})
	refusesAll(t, d, "a", api.ErrDead)
}

func TestTheErrorNamedFirstIsAnswered(t *testing.T) {
	d := newDisk(t, 3)
	answers(t, "Write of too much to no name", d.Write("A", "1234"), api.ErrArg)
	answers(t, "Rename of no file to no name", d.Rename("a", "A"), api.ErrArg)
	d.Fuse(0)
	answers(t, "Write to no name, fuse at its end", d.Write("A", "1"), api.ErrArg)
	answers(t, "Write of too much, fuse at its end", d.Write("a", "1234"), api.ErrFull)
	answers(t, "Sync of no file, fuse at its end", d.Sync("a"), api.ErrFile)
	answers(t, "Rename to no name, fuse at its end", d.Rename("a", "A"), api.ErrArg)
	answers(t, "Rename of no file, fuse at its end", d.Rename("a", "b"), api.ErrFile)
	answers(t, "Remove of no file, fuse at its end", d.Remove("a"), api.ErrFile)
	readsNothing(t, d, "a", api.ErrFile)
	lists(t, d)
	kill(d)
	answers(t, "Write to no name, dead", d.Write("A", "1234"), api.ErrDead)
	answers(t, "Write of too much, dead", d.Write("a", "1234"), api.ErrDead)
	answers(t, "Rename of no file to no name, dead", d.Rename("a", "A"), api.ErrDead)
	refusesAll(t, d, "a", api.ErrDead)
}

// P2

// overwrite writes into a text's own memory, as only a test may.
func overwrite(text string) {
	bytes := unsafe.Slice(unsafe.StringData(text), len(text))
	for i := range bytes {
		bytes[i] = '!'
	}
}

func TestWhatIsHandedInIsNotKept(t *testing.T) {
	d := newDisk(t, 100)
	name, bytes, to := strings.Clone("name"), strings.Clone("bytes"), strings.Clone("other")
	answers(t, "Write", d.Write(name, bytes), api.OK)
	overwrite(name)
	overwrite(bytes)
	lists(t, d, "name")
	holds(t, d, "name", "bytes", 0)
	answers(t, "Rename", d.Rename("name", to), api.OK)
	overwrite(to)
	lists(t, d, "other")
	holds(t, d, "other", "bytes", 0)
}

func TestWhatIsHandedInIsNotChanged(t *testing.T) {
	d := newDisk(t, 100)
	name, bytes := strings.Clone("name"), strings.Clone("bytes")
	room := []int{3, -1, 9, 77, 77}
	d.Write(name, bytes)
	d.Write(name, bytes)
	d.Crash(room[:3])
	if !slices.Equal(room, []int{3, -1, 9, 77, 77}) {
		t.Errorf("the list behind Crash: %v", room)
	}
	d.Write(name, "more")
	d.Sync(name)
	d.Rename(name, "other")
	if name != "name" || bytes != "bytes" {
		t.Errorf("the texts behind the calls: %q, %q", name, bytes)
	}
}

func TestAnAnswerIsNewMemory(t *testing.T) {
	d := newDisk(t, 100)
	for _, name := range []string{"first", "second", "third"} {
		d.Write(name, "bytes of "+name)
	}
	names, _ := d.Names()
	again, _ := d.Names()
	bytes, _ := d.Read("first")
	for _, name := range names {
		overwrite(name)
	}
	names = names[:cap(names)]
	for i := range names {
		names[i] = "mine"
	}
	overwrite(bytes)
	if !slices.Equal(again, []string{"first", "second", "third"}) {
		t.Errorf("an answer given before: %q", again)
	}
	lists(t, d, "first", "second", "third")
	holds(t, d, "first", "bytes of first", 0)
}

func TestAnAnswerStaysAsItWas(t *testing.T) {
	d := newDisk(t, 100)
	d.Write("first", "12345")
	names, _ := d.Names()
	bytes, _ := d.Read("first")
	d.Crash(nil)
	d.Write("first", "abcdef")
	d.Rename("first", "second")
	if bytes != "12345" || !slices.Equal(names, []string{"first"}) {
		t.Errorf("answers given before: %q, %q", bytes, names)
	}
}

func TestDisksKeepTheirFilesApart(t *testing.T) {
	d, other := newDisk(t, 5), newDisk(t, 5)
	answers(t, "Write", d.Write("a", "12345"), api.OK)
	lists(t, other)
	answers(t, "Write on the other disk", other.Write("b", "12345"), api.OK)
	kill(other)
	lists(t, d, "a")
}

// P3

func TestNewDiskRefusesNoQuota(t *testing.T) {
	for _, quota := range []int{-1, math.MinInt, api.MaxQuota + 1, math.MaxInt} {
		if d, e := strata.NewDisk(quota); d != nil || e != api.ErrArg {
			t.Errorf("NewDisk(%d) = %v, %d, want nil, %d", quota, d, e, api.ErrArg)
		}
	}
}

func TestNewDiskHasRoomForItsQuota(t *testing.T) {
	for _, quota := range []int{0, 1, 2, 1000, api.MaxQuota - 1, api.MaxQuota} {
		d := newDisk(t, quota)
		lists(t, d)
		half := quota / 2
		answers(t, "Write of a half", d.Write("a", strings.Repeat("x", half)), api.OK)
		answers(t, "Write of more than is left", d.Write("b", strings.Repeat("x", quota-half+1)), api.ErrFull)
		lists(t, d, "a")
		answers(t, "Write of all that is left", d.Write("b", strings.Repeat("x", quota-half)), api.OK)
		answers(t, "Write of one more", d.Write("a", "x"), api.ErrFull)
		answers(t, "Write of nothing", d.Write("c", ""), api.OK)
		lists(t, d, "a", "b", "c")
	}
}

// P4

func TestWrite(t *testing.T) {
	d := newDisk(t, 300)
	for _, name := range noNames() {
		answers(t, "Write to no name", d.Write(name, "x"), api.ErrArg)
		readsNothing(t, d, name, api.ErrFile)
	}
	lists(t, d)
	answers(t, "Write of the first bytes", d.Write("f", "one"), api.OK)
	holds(t, d, "f", "one", 0)
	answers(t, "Write of the next", d.Write("f", "two"), api.OK)
	holds(t, d, "f", "onetwo", 0)
	answers(t, "Write of nothing", d.Write("f", ""), api.OK)
	holds(t, d, "f", "onetwo", 0)
	answers(t, "Sync", d.Sync("f"), api.OK)
	holds(t, d, "f", "onetwo", 6)
	answers(t, "Write behind safe bytes", d.Write("f", "three"), api.OK)
	holds(t, d, "f", "onetwothree", 6)
	answers(t, "Write of nothing to a new file", d.Write("g", ""), api.OK)
	holds(t, d, "g", "", 0)
	var all []byte
	for c := range 256 {
		all = append(all, byte(c))
	}
	answers(t, "Write of all bytes that there are", d.Write("h", string(all)), api.OK)
	holds(t, d, "h", string(all), 0)
}

func TestEveryByteOfANameCounts(t *testing.T) {
	d := newDisk(t, 0)
	for c := range 256 {
		want := api.ErrArg
		if strings.IndexByte("abcdefghijklmnopqrstuvwxyz0123456789.", byte(c)) >= 0 {
			want = api.OK
		}
		one := string([]byte{byte(c)})
		for _, name := range []string{one, one + "a", "a" + one, strings.Repeat("a", api.MaxName-1) + one} {
			if e := d.Write(name, ""); e != want {
				t.Errorf("Write(%q) = %d, want %d", name, e, want)
			}
			if e := d.Rename(name, name); e != want {
				t.Errorf("Rename(%q) = %d, want %d", name, e, want)
			}
		}
	}
}

func TestARefusedWriteChangesNothing(t *testing.T) {
	d := newDisk(t, 5)
	d.Write("a", "123")
	answers(t, "Write of too much to a file", d.Write("a", "456"), api.ErrFull)
	answers(t, "Write of too much to a new file", d.Write("b", "456"), api.ErrFull)
	lists(t, d, "a")
	holds(t, d, "a", "123", 0)
	answers(t, "Write of what is left", d.Write("b", "45"), api.OK)
	answers(t, "Write of one more", d.Write("b", "6"), api.ErrFull)
}

func TestSync(t *testing.T) {
	d := newDisk(t, 100)
	answers(t, "Sync of no file", d.Sync("a"), api.ErrFile)
	d.Write("a", "12")
	d.Write("b", "34")
	answers(t, "Sync", d.Sync("a"), api.OK)
	holds(t, d, "a", "12", 2)
	holds(t, d, "b", "34", 0)
	answers(t, "Sync of what is safe", d.Sync("a"), api.OK)
	holds(t, d, "a", "12", 2)
	for _, name := range noNames() {
		answers(t, "Sync of no name", d.Sync(name), api.ErrFile)
	}
}

func TestRename(t *testing.T) {
	d := newDisk(t, 10)
	d.Write("a", "12")
	d.Sync("a")
	d.Write("a", "3")
	answers(t, "Rename to a free name", d.Rename("a", "b"), api.OK)
	lists(t, d, "b")
	holds(t, d, "b", "123", 2)
	readsNothing(t, d, "a", api.ErrFile)
	answers(t, "Rename of what was renamed", d.Rename("a", "c"), api.ErrFile)
	answers(t, "Rename to its own name", d.Rename("b", "b"), api.OK)
	lists(t, d, "b")
	holds(t, d, "b", "123", 2)
	answers(t, "Rename of no file to itself", d.Rename("a", "a"), api.ErrFile)
	for _, name := range noNames() {
		answers(t, "Rename to no name", d.Rename("b", name), api.ErrArg)
		answers(t, "Rename of no name", d.Rename(name, "b"), api.ErrFile)
	}
	lists(t, d, "b")
}

func TestRenameTakesTheOtherFileAway(t *testing.T) {
	d := newDisk(t, 10)
	d.Write("a", "12345")
	d.Sync("a")
	d.Write("b", "67")
	answers(t, "Rename to a name that is taken", d.Rename("b", "a"), api.OK)
	lists(t, d, "a")
	holds(t, d, "a", "67", 0)
	answers(t, "Rename to its own name", d.Rename("a", "a"), api.OK)
	answers(t, "Write of more than is left", d.Write("c", "123456789"), api.ErrFull)
	answers(t, "Write of what is left", d.Write("c", "12345678"), api.OK)
	answers(t, "Write to the file with its new name", d.Write("a", "8"), api.ErrFull)
}

func TestRemove(t *testing.T) {
	d := newDisk(t, 5)
	answers(t, "Remove of no file", d.Remove("a"), api.ErrFile)
	d.Write("a", "123")
	d.Write("b", "45")
	d.Sync("a")
	answers(t, "Remove", d.Remove("a"), api.OK)
	lists(t, d, "b")
	readsNothing(t, d, "a", api.ErrFile)
	answers(t, "Remove of what was removed", d.Remove("a"), api.ErrFile)
	answers(t, "Write in the room that it had", d.Write("a", "678"), api.OK)
	holds(t, d, "a", "678", 0)
	answers(t, "Write of one more", d.Write("a", "9"), api.ErrFull)
	for _, name := range noNames() {
		answers(t, "Remove of no name", d.Remove(name), api.ErrFile)
	}
}

func TestNamesAreInOrder(t *testing.T) {
	d := newDisk(t, 0)
	for _, name := range []string{"b", "ab", "a", "z9", "9", "0", "a.", "a0", ".", "..", "10", "aa", "z"} {
		answers(t, "Write", d.Write(name, ""), api.OK)
	}
	lists(t, d, ".", "..", "0", "10", "9", "a", "a.", "a0", "aa", "ab", "b", "z", "z9")
}

// P5

func TestFuseBurnsByEveryChangeDone(t *testing.T) {
	d := newDisk(t, 10)
	d.Fuse(4)
	answers(t, "Write", d.Write("a", "1"), api.OK)
	answers(t, "Sync", d.Sync("a"), api.OK)
	answers(t, "Rename", d.Rename("a", "b"), api.OK)
	answers(t, "Remove", d.Remove("b"), api.OK)
	answers(t, "the change behind them", d.Write("c", ""), api.ErrDead)
	refusesAll(t, d, "c", api.ErrDead)
	d.Crash(nil)
	lists(t, d)
}

func TestFuseBurnsByNothingElse(t *testing.T) {
	d := newDisk(t, 10)
	d.Write("a", "1")
	d.Fuse(1)
	d.Write("A", "1")
	d.Write("a", "1234567890")
	d.Sync("b")
	d.Rename("a", "A")
	d.Rename("b", "a")
	d.Remove("b")
	d.Read("a")
	d.Safe("a")
	d.Names()
	answers(t, "the first change", d.Sync("a"), api.OK)
	answers(t, "the second change", d.Sync("a"), api.ErrDead)
}

func TestTheDeadlyChangeIsNotDone(t *testing.T) {
	changes := []func(d *strata.Disk) api.Errno{
		func(d *strata.Disk) api.Errno { return d.Write("a", "x") },
		func(d *strata.Disk) api.Errno { return d.Write("a", "") },
		func(d *strata.Disk) api.Errno { return d.Write("new", "x") },
		func(d *strata.Disk) api.Errno { return d.Sync("a") },
		func(d *strata.Disk) api.Errno { return d.Rename("a", "new") },
		func(d *strata.Disk) api.Errno { return d.Rename("a", "b") },
		func(d *strata.Disk) api.Errno { return d.Rename("a", "a") },
		func(d *strata.Disk) api.Errno { return d.Remove("a") },
	}
	for i, change := range changes {
		d := newDisk(t, 7)
		d.Write("a", "1234")
		d.Write("b", "56")
		d.Fuse(0)
		if e := change(d); e != api.ErrDead {
			t.Errorf("change %d with a fuse of 0 = %d, want %d", i, e, api.ErrDead)
		}
		refusesAll(t, d, "a", api.ErrDead)
		d.Crash([]int{1, 9})
		lists(t, d, "a", "b")
		holds(t, d, "a", "1", 1)
		holds(t, d, "b", "56", 2)
		answers(t, "Write of more than is left", d.Write("a", "12345"), api.ErrFull)
		answers(t, "Write of what is left", d.Write("a", "1234"), api.OK)
	}
}

func TestTheLastFuseCounts(t *testing.T) {
	for _, n := range []int{-1, -2, math.MinInt} {
		d := newDisk(t, 10)
		d.Fuse(0)
		d.Fuse(n)
		for range 5 {
			answers(t, "Write without a fuse", d.Write("a", "1"), api.OK)
		}
		d.Fuse(math.MaxInt)
		answers(t, "Write with a long fuse", d.Write("a", "1"), api.OK)
		d.Fuse(0)
		d.Fuse(2)
		answers(t, "the first change", d.Write("a", "1"), api.OK)
		d.Fuse(1)
		answers(t, "the first change of another fuse", d.Write("a", "1"), api.OK)
		answers(t, "the second change of another fuse", d.Write("a", "1"), api.ErrDead)
	}
}

func TestFuseDoesNothingToADeadDisk(t *testing.T) {
	for _, n := range []int{-1, 0, 1, math.MinInt, math.MaxInt} {
		d := newDisk(t, 10)
		kill(d)
		d.Fuse(n)
		refusesAll(t, d, "a", api.ErrDead)
		d.Crash(nil)
		for range 3 {
			answers(t, "Write behind the crash", d.Write("a", "1"), api.OK)
		}
	}
}

func TestCrashKeepsWhatItIsTold(t *testing.T) {
	cases := []struct {
		keep []int
		want []string
	}{
		{nil, []string{"12", "", ""}},
		{[]int{0, 0, 0}, []string{"12", "", ""}},
		{[]int{1}, []string{"123", "", ""}},
		{[]int{2, 1}, []string{"1234", "a", ""}},
		{[]int{3, 2, 1}, []string{"1234", "ab", ""}},
		{[]int{-1, 1, 5}, []string{"12", "a", ""}},
		{[]int{math.MaxInt, math.MinInt, 1, 9, 9}, []string{"1234", "", ""}},
		{[]int{math.MaxInt - 1, math.MaxInt}, []string{"1234", "abc", ""}},
	}
	for _, c := range cases {
		d := newDisk(t, 100)
		d.Write("z", "")
		d.Write("m", "abc")
		d.Write("b", "12")
		d.Sync("b")
		d.Write("b", "34")
		d.Crash(c.keep)
		lists(t, d, "b", "m", "z")
		for i, name := range []string{"b", "m", "z"} {
			holds(t, d, name, c.want[i], len(c.want[i]))
		}
		d.Crash(nil)
		for i, name := range []string{"b", "m", "z"} {
			holds(t, d, name, c.want[i], len(c.want[i]))
		}
	}
}

func TestCrashGivesRoomBackAndPutsTheFuseOut(t *testing.T) {
	d := newDisk(t, 6)
	d.Write("a", "123")
	d.Sync("a")
	d.Write("a", "456")
	d.Fuse(0)
	d.Crash([]int{1})
	holds(t, d, "a", "1234", 4)
	answers(t, "Write of more than is left", d.Write("a", "xyz"), api.ErrFull)
	answers(t, "Write of what is left", d.Write("a", "xy"), api.OK)
	holds(t, d, "a", "1234xy", 4)
	answers(t, "Sync", d.Sync("a"), api.OK)
}

func TestFilesAndNamesAreSafeAtOnce(t *testing.T) {
	d := newDisk(t, 20)
	d.Write("a", "12")
	d.Write("b", "34")
	d.Sync("b")
	d.Write("c", "56")
	d.Rename("b", "d")
	d.Remove("c")
	d.Crash(nil)
	lists(t, d, "a", "d")
	holds(t, d, "a", "", 0)
	holds(t, d, "d", "34", 2)
}

// The document's examples of the disk.
func TestExamplesOfTheDisk(t *testing.T) {
	d := newDisk(t, 10)
	answers(t, `Write("a", "12345")`, d.Write("a", "12345"), api.OK)
	answers(t, `Write("b", "123456")`, d.Write("b", "123456"), api.ErrFull)
	answers(t, `Write("b", "1234")`, d.Write("b", "1234"), api.OK)
	answers(t, `Sync("a")`, d.Sync("a"), api.OK)
	answers(t, `Write("a", "6")`, d.Write("a", "6"), api.OK)
	holds(t, d, "a", "123456", 5)
	lists(t, d, "a", "b")
	d.Crash([]int{0, 2})
	holds(t, d, "a", "12345", 5)
	holds(t, d, "b", "12", 2)
	answers(t, `Rename("b", "a")`, d.Rename("b", "a"), api.OK)
	lists(t, d, "a")
	holds(t, d, "a", "12", 2)
	answers(t, `Write("A", "")`, d.Write("A", ""), api.ErrArg)
	answers(t, `Remove("b")`, d.Remove("b"), api.ErrFile)
	d.Fuse(1)
	answers(t, `Write("c", "x")`, d.Write("c", "x"), api.OK)
	answers(t, `Write("c", "y")`, d.Write("c", "y"), api.ErrDead)
	refusesAll(t, d, "c", api.ErrDead)
	d.Crash(nil)
	holds(t, d, "c", "", 0)
	lists(t, d, "a", "c")
}
