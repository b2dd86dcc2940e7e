package layer_test

import (
	"fmt"
	"math/rand"
	"slices"
	"strings"
	"testing"

	"strata/api"
	"strata/coding"
	"strata/layer"
)

func put(key string, value string, batch int) layer.Entry {
	return layer.Entry{Op: api.Op{Key: key, Value: value}, Batch: batch}
}

func gone(key string, batch int) layer.Entry {
	return layer.Entry{Op: api.Op{Key: key, Delete: true}, Batch: batch}
}

func some() []layer.Entry {
	return []layer.Entry{put("a", "1", 4), put("b", "2", 7), gone("b", 5), put("b", "3", 2), put("bb", "", 1), gone("d", 9)}
}

func TestBetween(t *testing.T) {
	all := some()
	for _, lo := range []string{"", "a", "aa", "b", "b\x00", "bb", "c", "d", "e", "\xff"} {
		for _, hi := range []string{"", "a", "aa", "b", "b\x00", "bb", "c", "d", "e", "\xff"} {
			var want []layer.Entry
			for _, entry := range all {
				if entry.Key >= lo && (hi == "" || entry.Key < hi) {
					want = append(want, entry)
				}
			}
			if got := layer.Between(all, lo, hi); !slices.Equal(got, want) {
				t.Errorf("Between(%q, %q) = %v, want %v", lo, hi, got, want)
			}
		}
	}
	if got := layer.Between(nil, "a", "b"); len(got) != 0 {
		t.Errorf("Between of nothing = %v", got)
	}
}

func TestFind(t *testing.T) {
	for _, c := range []struct {
		key   string
		batch int
		want  layer.Entry
		found bool
	}{
		{"a", 4, put("a", "1", 4), true},
		{"a", 99, put("a", "1", 4), true},
		{"a", 3, layer.Entry{}, false},
		{"b", 7, put("b", "2", 7), true},
		{"b", 6, gone("b", 5), true},
		{"b", 4, put("b", "3", 2), true},
		{"b", 1, layer.Entry{}, false},
		{"d", 9, gone("d", 9), true},
		{"c", 9, layer.Entry{}, false},
		{"e", 9, layer.Entry{}, false},
		{"", 9, layer.Entry{}, false},
	} {
		if got, found := layer.Find(some(), c.key, c.batch); got != c.want || found != c.found {
			t.Errorf("Find(%q, %d) = %v, %v, want %v, %v", c.key, c.batch, got, found, c.want, c.found)
		}
	}
}

func TestMerge(t *testing.T) {
	layers := [][]layer.Entry{
		{gone("a", 9), put("c", "9", 9), put("c", "8", 8)},
		nil,
		{put("b", "7", 7), gone("c", 6), put("d", "5", 5)},
		{put("a", "4", 4), put("c", "3", 3)},
	}
	want := []layer.Entry{gone("a", 9), put("a", "4", 4), put("b", "7", 7), put("c", "9", 9), put("c", "8", 8), gone("c", 6), put("c", "3", 3), put("d", "5", 5)}
	merged := layer.Merge(layers)
	for range 2 {
		if got := slices.Collect(merged); !slices.Equal(got, want) {
			t.Errorf("Merge = %v, want %v", got, want)
		}
	}
	for n := range want {
		var got []layer.Entry
		for entry := range merged {
			got = append(got, entry)
			if len(got) == n+1 {
				break
			}
		}
		if !slices.Equal(got, want[:n+1]) {
			t.Errorf("the first %d are %v, want %v", n+1, got, want[:n+1])
		}
	}
	if got := slices.Collect(layer.Merge(nil)); got != nil {
		t.Errorf("Merge of nothing = %v", got)
	}
}

func TestBehind(t *testing.T) {
	for batch, want := range map[int][]api.Pair{
		0: nil,
		1: {{Key: "bb"}},
		3: {{Key: "b", Value: "3"}, {Key: "bb"}},
		5: {{Key: "a", Value: "1"}, {Key: "bb"}},
		7: {{Key: "a", Value: "1"}, {Key: "b", Value: "2"}, {Key: "bb"}},
	} {
		pairs := layer.Behind(batch, slices.Values(some()))
		if got := slices.Collect(pairs); !slices.Equal(got, want) {
			t.Errorf("Behind(%d) = %q, want %q", batch, got, want)
		}
		for range pairs {
			break
		}
	}
}

func TestNeeded(t *testing.T) {
	versions := []layer.Entry{put("a", "5", 9), gone("a", 7), put("a", "3", 5), put("a", "2", 3), gone("a", 1), put("b", "1", 1), gone("c", 4)}
	for _, c := range []struct {
		batches []int
		lowest  bool
		want    []layer.Entry
	}{
		{nil, false, []layer.Entry{versions[0], versions[5], versions[6]}},
		{nil, true, []layer.Entry{versions[0], versions[5]}},
		{[]int{9, 12}, true, []layer.Entry{versions[0], versions[5]}},
		{[]int{8}, false, []layer.Entry{versions[0], versions[1], versions[5], versions[6]}},
		{[]int{8}, true, []layer.Entry{versions[0], versions[5]}},
		{[]int{7, 6}, true, []layer.Entry{versions[0], versions[1], versions[2], versions[5]}},
		{[]int{3, 4}, true, []layer.Entry{versions[0], versions[3], versions[5]}},
		{[]int{1}, false, []layer.Entry{versions[0], versions[4], versions[5], versions[6]}},
		{[]int{1, 0}, true, []layer.Entry{versions[0], versions[5]}},
	} {
		if got := layer.Needed(slices.Values(versions), c.batches, c.lowest); !slices.Equal(got, c.want) {
			t.Errorf("Needed behind %v, %v = %v, want %v", c.batches, c.lowest, got, c.want)
		}
	}
	if got := layer.Needed(slices.Values([]layer.Entry(nil)), nil, false); len(got) != 0 {
		t.Errorf("Needed of nothing = %v", got)
	}
	old := []layer.Entry{put("a", "new", 0), put("a", "old", 0)}
	if got := layer.Needed(slices.Values(old), []int{0, 3}, true); !slices.Equal(got, old[:1]) {
		t.Errorf("of an earlier store's versions %v are needed", got)
	}
}

// random is layers, the newest first, of batches 1 to n, as a store has them.
func random(r *rand.Rand, n int) [][]layer.Entry {
	layers := make([][]layer.Entry, 1+r.Intn(4))
	for batch := range n {
		i := len(layers) - 1 - batch*len(layers)/n
		for key := range 5 {
			switch r.Intn(4) {
			case 0:
				layers[i] = append(layers[i], put(fmt.Sprint(key), fmt.Sprint(batch), batch+1))
			case 1:
				layers[i] = append(layers[i], gone(fmt.Sprint(key), batch+1))
			}
		}
	}
	for _, entries := range layers {
		slices.SortFunc(entries, func(a, b layer.Entry) int {
			return 1000*strings.Compare(a.Key, b.Key) + b.Batch - a.Batch
		})
	}
	return layers
}

// What is needed is seen as before, now and behind each of the batches.
func TestWhatIsNeededIsEnough(t *testing.T) {
	r := rand.New(rand.NewSource(1))
	for range 3000 {
		n := 1 + r.Intn(12)
		layers := random(r, n)
		batches := []int{r.Intn(n + 1), r.Intn(n + 1), r.Intn(n + 1)}[:r.Intn(4)]
		cut := r.Intn(len(layers)) + 1
		newer := layer.Needed(layer.Merge(layers[:cut]), batches, cut == len(layers))
		thin := append([][]layer.Entry{newer}, layers[cut:]...)
		for _, batch := range append(batches, n) {
			want := slices.Collect(layer.Behind(batch, layer.Merge(layers)))
			if got := slices.Collect(layer.Behind(batch, layer.Merge(thin))); !slices.Equal(got, want) {
				t.Fatalf("behind %d of %v: %q, want %q", batch, layers, got, want)
			}
		}
		if again := layer.Needed(slices.Values(newer), batches, cut == len(layers)); !slices.Equal(again, newer) {
			t.Fatalf("of %v, which is needed, %v is needed", newer, again)
		}
	}
}

func TestALayerIsReadAgain(t *testing.T) {
	long := put(strings.Repeat("k", 16), strings.Repeat("v", 64), 3)
	for _, entries := range [][]layer.Entry{some(), {put("\x00", "\xff", 1)}, {gone("\xff", 1)}, {long}, slices.Repeat([]layer.Entry{long}, 999)} {
		text := layer.Encode(entries)
		got, e := layer.Decode(text)
		for i := range got {
			got[i].Batch = entries[i].Batch
		}
		if !slices.Equal(got, entries) || e != api.OK || len(text) != layer.Size(entries) {
			t.Errorf("Decode(%q) = %v, %d, want %v", text, got, e, entries)
		}
	}
}

func TestEntriesThatAreReadAreOlderThanAllBatches(t *testing.T) {
	entries, _ := layer.Decode(layer.Encode(some()))
	for _, entry := range entries {
		if entry.Batch != 0 {
			t.Errorf("the batch of %v is %d", entry.Op, entry.Batch)
		}
	}
}

func TestATextThatIsNoLayerIsBroken(t *testing.T) {
	text := layer.Encode(some())
	texts := []string{"", text + "\x00", coding.Seal(nil), layer.Encode([]layer.Entry{put("b", "1", 0), put("a", "1", 0)})}
	for _, body := range []string{"\x00\x00", "\x01\x02kv", "\x01\x01kv\x01", "\x81", "\x91" + strings.Repeat("k", 17)} {
		texts = append(texts, coding.Seal([]byte(body)))
	}
	for i := range text {
		changed := []byte(text)
		changed[i] ^= 1
		texts = append(texts, text[:i], string(changed))
	}
	for _, text := range texts {
		if got, e := layer.Decode(text); got != nil || e != api.ErrBroken {
			t.Errorf("Decode(%q) = %v, %d, want nothing, %d", text, got, e, api.ErrBroken)
		}
	}
}
