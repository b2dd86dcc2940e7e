package store

import (
	"iter"
	"slices"
	"strings"

	"strata/api"
)

// memory is what is in memory: the keys, each with the version that the last op on it left.
type memory map[string]version

type version struct {
	value string
}

// do does a batch, op by op.
func (m memory) do(ops []api.Op) {
	for _, op := range ops {
		if op.Delete {
			delete(m, op.Key)
			continue
		}
		// Copies: neither the caller's texts are kept, nor a whole log for the sake of one key.
		m[strings.Clone(op.Key)] = version{value: strings.Clone(op.Value)}
	}
}

// scan goes through the keys that are not ahead of lo and, unless hi is empty, ahead of hi, in order.
func (m memory) scan(lo string, hi string) iter.Seq[api.Pair] {
	return func(yield func(api.Pair) bool) {
		for _, key := range m.between(lo, hi) {
			if !yield(api.Pair{Key: key, Value: m[key].value}) {
				return
			}
		}
	}
}

// ops tells a list of ops that makes an empty map this one.
func (m memory) ops() []api.Op {
	var ops []api.Op
	for pair := range m.scan("", "") {
		ops = append(ops, api.Op{Key: pair.Key, Value: pair.Value})
	}
	return ops
}

func (m memory) between(lo string, hi string) []string {
	var keys []string
	for key := range m {
		if key >= lo && (hi == "" || key < hi) {
			keys = append(keys, key)
		}
	}
	slices.Sort(keys)
	return keys
}
