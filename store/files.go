package store

import (
	"strconv"
	"strings"

	"strata/api"
)

const (
	manifestName = "manifest"
	begunName    = "begun" // what is to take another file's place: it counts when it has that one's name
	logPrefix    = "log."
	tablePrefix  = "table."
	base         = 36 // so that the names of all numbers are short enough
)

func logName(number int) string { return logPrefix + strconv.FormatInt(int64(number), base) }

func tableName(number int) string { return tablePrefix + strconv.FormatInt(int64(number), base) }

// numberOf tells the number in the name of a log or of a table.
func numberOf(name string, prefix string) (int, bool) {
	digits, ok := strings.CutPrefix(name, prefix)
	if !ok {
		return 0, false
	}
	number, err := strconv.ParseInt(digits, base, 64)
	// One name a number: no zeros ahead of it.
	return int(number), err == nil && number >= 0 && strconv.FormatInt(number, base) == digits
}

// isOurs tells whether a store may write a file of this name.
func isOurs(name string) bool {
	_, isLog := numberOf(name, logPrefix)
	_, isTable := numberOf(name, tablePrefix)
	return isLog || isTable || name == manifestName || name == begunName
}

// mayHave tells whether the store may have these files: those that it needs, and what is left of a call in which the disk died.
func (s *Store) mayHave(names []string) bool {
	for _, name := range names {
		log, _ := numberOf(name, logPrefix)
		number, _ := numberOf(name, tablePrefix)
		// No call makes more tables than one by each that is there, and one besides.
		if !isOurs(name) || log > s.log || number > s.next+len(s.tables) {
			return false
		}
	}
	return true
}

// isNeeded tells whether a file is one of those of which the store consists.
func (s *Store) isNeeded(name string) bool {
	if name == manifestName || name == logName(s.log) {
		return true
	}
	for _, t := range s.tables {
		if name == tableName(t.number) {
			return true
		}
	}
	return false
}

// sweep takes the files away that were begun and are not needed, and those that are not needed any more.
func (s *Store) sweep() api.Errno {
	names, e := s.disk.Names()
	if e != api.OK {
		return e
	}
	for _, name := range names {
		if !isOurs(name) || s.isNeeded(name) {
			continue
		}
		if e := s.disk.Remove(name); e != api.OK {
			return e
		}
	}
	return api.OK
}

// replace puts a file of this text, which is safe, in the place of another one.
func (s *Store) replace(name string, text string) api.Errno {
	if e := s.write(begunName, text); e != api.OK {
		return e
	}
	return s.disk.Rename(begunName, name)
}

// write makes a file of this text, which is safe.
func (s *Store) write(name string, text string) api.Errno {
	if e := s.disk.Write(name, text); e != api.OK {
		return e
	}
	return s.disk.Sync(name)
}
