package store

import (
	"slices"

	"strata/api"
)

// Compact puts all that there is into one table, or into none.
func (s *Store) Compact() api.Errno {
	if e := s.Writable(); e != api.OK {
		return e
	}
	return s.outcome(s.compact())
}

func (s *Store) compact() api.Errno {
	all := table{level: s.highest(), entries: s.needed(s.layersBetween("", ""), true)}
	if s.isAlready(all) {
		return api.OK
	}
	log := s.log
	if len(s.memory) > 0 {
		log++
	}
	return s.commit(replaced(s.tables, 0, len(s.tables), all), log)
}

// highest tells the highest level that there is: that of the oldest table.
func (s *Store) highest() int {
	if len(s.tables) == 0 {
		return 0
	}
	return s.tables[0].level
}

// isAlready tells whether the store has nothing but this table, which was merged from all that it has.
func (s *Store) isAlready(all table) bool {
	if len(s.memory) > 0 || len(s.tables) > 1 {
		return false
	}
	return len(s.tables) == 0 || len(s.tables[0].entries) == len(all.entries)
}

// Merge makes one table of some that stand one behind the other, or none if nothing is left of them.
func (s *Store) Merge(numbers []int) api.Errno {
	if e := s.Writable(); e != api.OK {
		return e
	}
	from, to := s.span(numbers)
	if to == 0 {
		return api.ErrArg
	}
	merged := table{level: s.tables[from].level, entries: s.needed(newestFirst(s.tables[from:to]), from == 0)}
	return s.outcome(s.commit(replaced(s.tables, from, to, merged), s.log))
}

// span tells where the tables of these numbers stand, from one index on and ahead of another. Both are 0, if the numbers are no proposal.
func (s *Store) span(numbers []int) (from int, to int) {
	// So long a list names one twice, or one that there is not.
	if len(numbers) == 0 || len(numbers) > len(s.tables) {
		return 0, 0
	}
	var indices []int
	for _, number := range numbers {
		indices = append(indices, s.indexOf(number))
	}
	slices.Sort(indices)
	from = indices[0]
	for i, index := range indices {
		if from < 0 || index != from+i {
			return 0, 0
		}
	}
	return from, from + len(indices)
}

// indexOf tells where the table of a number stands, -1 if there is none.
func (s *Store) indexOf(number int) int {
	return slices.IndexFunc(s.tables, func(t table) bool { return t.number == number })
}
