package store

import (
	"slices"

	"strata/api"
	"strata/layer"
	"strata/manifest"
	"strata/shape"
)

// table is a layer on the disk, or one that is to be there: then it has no number yet.
type table struct {
	number, level int
	entries       []layer.Entry
}

// Tables tells the tables, the oldest first.
func (s *Store) Tables() ([]api.Table, api.Errno) {
	if e := s.Ready(); e != api.OK {
		return nil, e
	}
	var told []api.Table
	for _, t := range s.tables {
		told = append(told, api.Table{Number: t.number, Level: t.level, Entries: len(t.entries)})
	}
	return told, api.OK
}

// Flush puts all that is in memory into tables.
func (s *Store) Flush() api.Errno {
	if e := s.Writable(); e != api.OK {
		return e
	}
	return s.outcome(s.flush())
}

func (s *Store) flush() api.Errno {
	if len(s.memory) == 0 {
		return s.settle(s.tables, s.log)
	}
	tables := s.tables
	entries := s.needed([][]layer.Entry{s.memory.between("", "")}, len(tables) == 0)
	if len(entries) > 0 {
		tables = slices.Concat(tables, []table{{entries: entries}})
	}
	return s.settle(tables, s.log+1)
}

// settle makes these the store's tables, in the shape that the policy asks for, and this its log.
// Both at once: when the disk dies there are not more tables than there may be.
func (s *Store) settle(tables []table, log int) api.Errno {
	shaped := s.shaped(tables)
	merged := len(shaped) < len(tables)
	if !merged && log == s.log {
		return api.OK
	}
	e := s.commit(shaped, log)
	if e == api.ErrFull && merged && log != s.log {
		// There may be room for what was in memory alone.
		return s.commit(tables, log)
	}
	return e
}

// shaped tells the tables that are left when those are merged of which there are too many.
func (s *Store) shaped(tables []table) []table {
	for {
		from, to := shape.Crowded(s.policy, levels(tables))
		if to == 0 {
			return tables
		}
		level, highest := tables[from].level, tables[0].level
		entries := s.needed(newestFirst(tables[from:to]), from == 0)
		level = shape.Target(s.policy, level, highest, layer.Size(entries))
		tables = replaced(tables, from, to, table{level: level, entries: entries})
	}
}

// replaced tells the tables with another one in the place of some, or with none if it has no entries.
func replaced(tables []table, from int, to int, by table) []table {
	if len(by.entries) == 0 {
		return slices.Concat(tables[:from], tables[to:])
	}
	return slices.Concat(tables[:from], []table{by}, tables[to:])
}

// needed merges layers to one. With lowest there is none below them.
func (s *Store) needed(layers [][]layer.Entry, lowest bool) []layer.Entry {
	return layer.Needed(layer.Merge(layers), s.seen(), lowest)
}

// commit makes these the store's tables, and this its log, all at once: when the manifest that names them has its name.
// If it is another log, what was in memory is in the tables.
func (s *Store) commit(tables []table, log int) api.Errno {
	// Either the new files are not needed, or the old ones.
	defer s.sweep()
	tables, next, e := s.written(tables)
	if e != api.OK {
		return e
	}
	m := manifest.Manifest{Next: next, Log: log, Tables: places(tables)}
	if e := s.replace(manifestName, manifest.Encode(m)); e != api.OK {
		return e
	}
	s.tables, s.next = tables, next
	if log != s.log {
		clear(s.memory)
		s.log, s.length, s.loose = log, 0, false
	}
	return api.OK
}

// written writes those tables that are not on the disk, and tells all of them with their numbers, and the next number.
func (s *Store) written(tables []table) ([]table, int, api.Errno) {
	tables = slices.Clone(tables)
	next := s.next
	for i, t := range tables {
		if t.number > 0 {
			continue
		}
		if e := s.write(tableName(next), layer.Encode(t.entries)); e != api.OK {
			return nil, 0, e
		}
		tables[i].number = next
		next++
	}
	return tables, next, api.OK
}

func newestFirst(tables []table) [][]layer.Entry {
	var layers [][]layer.Entry
	for _, t := range slices.Backward(tables) {
		layers = append(layers, t.entries)
	}
	return layers
}

func levels(tables []table) []int {
	var all []int
	for _, t := range tables {
		all = append(all, t.level)
	}
	return all
}

func places(tables []table) []manifest.Place {
	var all []manifest.Place
	for _, t := range tables {
		all = append(all, manifest.Place{Number: t.number, Level: t.level})
	}
	return all
}
