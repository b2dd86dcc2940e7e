// Package shape: how many tables of each level there may be by each policy, and which level merged tables get.
package shape

import (
	"slices"

	"strata/api"
)

// Unit is how many bytes a log may have before it is flushed. A table that stands alone in its level may have Fan times as many by each level.
const Unit = 4096

// Crowded tells the tables that are to be merged first, from one index on and ahead of another: all of the lowest level of which there are too many.
// The levels are those of the tables, the oldest first. Both indices are 0, if there are too many of none.
func Crowded(policy int, levels []int) (from int, to int) {
	for to = len(levels); to > 0; to = from {
		level := levels[to-1]
		from = slices.Index(levels, level)
		if to-from > most(policy, level, levels[0]) {
			return from, to
		}
	}
	return 0, 0
}

// Target tells the level of the table to which those of a level are merged, if it has so many bytes.
func Target(policy int, level int, highest int, bytes int) int {
	if most(policy, level, highest) == 1 && bytes <= room(level) {
		return level
	}
	return level + 1
}

// most tells how many tables of a level there may be, by the highest level that there is.
func most(policy int, level int, highest int) int {
	switch {
	case level == 0 || policy == api.Tiered:
		return api.Fan
	case policy == api.Lazy && level < highest:
		return api.Fan
	}
	return 1
}

func room(level int) int {
	bytes := Unit
	// Behind some levels it is more than any disk has.
	for range min(level, 20) {
		bytes *= api.Fan
	}
	return bytes
}
