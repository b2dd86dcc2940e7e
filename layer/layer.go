// Package layer: sorted entries, of which each layer of a store is made, how several layers are read as one, and how one is written down.
package layer

import (
	"iter"
	"slices"
	"strings"

	"strata/api"
)

// Entry is a version of a key: the op that made it, and the number of the op's batch.
// The entries of a layer are in the order of their keys, those of one key the newest first.
type Entry struct {
	api.Op
	Batch int
}

// Between tells those entries of which the keys are not ahead of lo and, unless hi is empty, ahead of hi.
func Between(entries []Entry, lo string, hi string) []Entry {
	from, to := start(entries, lo), len(entries)
	if hi != "" {
		to = max(from, start(entries, hi))
	}
	return entries[from:to]
}

// Find tells the version of a key that was there behind a batch.
func Find(entries []Entry, key string, batch int) (Entry, bool) {
	for _, entry := range entries[start(entries, key):] {
		if entry.Key != key {
			break
		}
		if entry.Batch <= batch {
			return entry, true
		}
	}
	return Entry{}, false
}

// start tells where the entries begin of which the keys are not ahead of this one.
func start(entries []Entry, key string) int {
	at, _ := slices.BinarySearchFunc(entries, key, func(entry Entry, key string) int {
		return strings.Compare(entry.Key, key)
	})
	return at
}

// Merge goes through the entries of several layers as if they were one, the least first. The layers are in order, the newest first.
func Merge(layers [][]Entry) iter.Seq[Entry] {
	return func(yield func(Entry) bool) {
		rest := slices.Clone(layers)
		for least := first(rest); least >= 0; least = first(rest) {
			if !yield(rest[least][0]) {
				return
			}
			rest[least] = rest[least][1:]
		}
	}
}

// first tells which layer has the least entry, the newest if several have its key; -1, if there are no entries.
func first(layers [][]Entry) int {
	least := -1
	for i, entries := range layers {
		if len(entries) > 0 && (least < 0 || entries[0].Key < layers[least][0].Key) {
			least = i
		}
	}
	return least
}

// Behind goes through the keys and values that were there behind a batch.
func Behind(batch int, entries iter.Seq[Entry]) iter.Seq[api.Pair] {
	return func(yield func(api.Pair) bool) {
		last := "" // which is no key
		for entry := range entries {
			if entry.Batch > batch || entry.Key == last {
				continue
			}
			last = entry.Key
			if !entry.Delete && !yield(api.Pair{Key: entry.Key, Value: entry.Value}) {
				return
			}
		}
	}
}

// Needed tells those entries that are seen now, or behind one of some batches: a new layer.
// With lowest there is no older layer, and a deletion above nothing is not needed either.
func Needed(entries iter.Seq[Entry], batches []int, lowest bool) []Entry {
	var all, versions []Entry
	for entry := range entries {
		if len(versions) > 0 && versions[0].Key != entry.Key {
			all = append(all, seen(versions, batches, lowest)...)
			versions = versions[:0]
		}
		versions = append(versions, entry)
	}
	return append(all, seen(versions, batches, lowest)...)
}

// seen tells which of all versions of a key are needed.
func seen(versions []Entry, batches []int, lowest bool) []Entry {
	var some []Entry
	for i, entry := range versions {
		isSeen := func(batch int) bool {
			return entry.Batch <= batch && batch < versions[i-1].Batch
		}
		if i == 0 || slices.ContainsFunc(batches, isSeen) {
			some = append(some, entry)
		}
	}
	for lowest && len(some) > 0 && some[len(some)-1].Delete {
		some = some[:len(some)-1]
	}
	return some
}
