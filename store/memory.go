package store

import (
	"slices"
	"strings"

	"strata/api"
	"strata/layer"
)

// memory is what is in memory: from keys to their versions, the newest first.
type memory map[string][]layer.Entry

// do does a batch, op by op. Of what it writes over, those versions are kept that were there when the last live snapshot was taken.
func (m memory) do(ops []api.Op, batch int, lastSnap int) {
	for _, op := range ops {
		entry := layer.Entry{Op: own(op), Batch: batch}
		versions := m[entry.Key]
		if len(versions) > 0 && versions[0].Batch > lastSnap {
			versions = versions[1:]
		}
		m[entry.Key] = slices.Concat([]layer.Entry{entry}, versions)
	}
}

// own copies an op: neither the caller's texts are kept, nor a whole log for the sake of one key.
func own(op api.Op) api.Op {
	if op.Delete {
		return api.Op{Key: strings.Clone(op.Key), Delete: true}
	}
	return api.Op{Key: strings.Clone(op.Key), Value: strings.Clone(op.Value)}
}

// between tells the versions of the keys from lo on and, unless hi is empty, ahead of hi, as a layer.
func (m memory) between(lo string, hi string) []layer.Entry {
	var keys []string
	for key := range m {
		if key >= lo && (hi == "" || key < hi) {
			keys = append(keys, key)
		}
	}
	slices.Sort(keys)
	var entries []layer.Entry
	for _, key := range keys {
		entries = append(entries, m[key]...)
	}
	return entries
}
