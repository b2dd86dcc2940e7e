package store

import (
	"slices"
	"strings"
	"sync"

	"strata/api"
	"strata/disk"
	"strata/journal"
	"strata/layer"
	"strata/manifest"
)

// Open takes a disk and reads the store that is on it. All that it finds is safe when it answers OK.
func Open(d *disk.Disk, policy int) (*Store, api.Errno) {
	if policy < api.Tiered || policy > api.Lazy {
		return nil, api.ErrArg
	}
	s := &Store{disk: d, turn: d.Take(), policy: policy, memory: memory{}, next: 1, snaps: map[int]int{}}
	if e := s.load(); e != api.OK {
		return nil, e
	}
	return s, api.OK
}

// load reads all that is there ahead of the first change: what is no store's stays as it is.
func (s *Store) load() api.Errno {
	names, e := s.disk.Names()
	if e != api.OK {
		return e
	}
	if e := s.loadTables(names); e != api.OK {
		return e
	}
	if !s.mayHave(names) {
		return api.ErrBroken
	}
	torn, e := s.loadLog(names)
	if e != api.OK {
		return e
	}
	if e := s.sweep(); e != api.OK {
		return e
	}
	if torn {
		// New records would stand behind a piece of one, and never be found again.
		return s.rewriteLog()
	}
	return s.Sync()
}

// loadTables reads the manifest, and looks through the tables that it names, side by side.
func (s *Store) loadTables(names []string) api.Errno {
	if !slices.Contains(names, manifestName) {
		return api.OK
	}
	text, e := s.disk.Read(manifestName)
	if e != api.OK {
		return e
	}
	m, e := manifest.Decode(text)
	if e != api.OK {
		return e
	}
	s.next, s.log = m.Next, m.Log
	s.tables = make([]table, len(m.Tables))
	answers := make([]api.Errno, len(m.Tables))
	var all sync.WaitGroup
	for i, place := range m.Tables {
		all.Go(func() {
			s.tables[i], answers[i] = s.loadTable(place)
		})
	}
	all.Wait()
	return firstError(answers)
}

func (s *Store) loadTable(place manifest.Place) (table, api.Errno) {
	text, e := s.disk.Read(tableName(place.Number))
	if e == api.ErrFile {
		return table{}, api.ErrBroken
	}
	if e != api.OK {
		return table{}, e
	}
	entries, e := layer.Decode(text)
	return table{number: place.Number, level: place.Level, entries: entries}, e
}

func firstError(answers []api.Errno) api.Errno {
	for _, e := range answers {
		if e != api.OK {
			return e
		}
	}
	return api.OK
}

// loadLog does all batches of the log again, and tells whether a crash cut the last one off.
func (s *Store) loadLog(names []string) (bool, api.Errno) {
	name := logName(s.log)
	if !slices.Contains(names, name) {
		return false, api.OK
	}
	text, e := s.disk.Read(name)
	if e != api.OK {
		return false, e
	}
	safe, e := s.disk.Safe(name)
	if e != api.OK {
		return false, e
	}
	s.length = len(text)
	s.loose = safe < s.length
	for text != "" {
		ops, size, e := journal.Decode(text)
		if e != api.OK || size == 0 {
			return true, e
		}
		s.memory.do(ops, s.batch, s.lastSnap())
		text = text[size:]
	}
	return false, api.OK
}

// rewriteLog puts another log in the place of the log: of what is in memory, and safe.
// Not a copy of the records that are whole: on a disk that is nearly full there may be no room for them.
func (s *Store) rewriteLog() api.Errno {
	text := s.memory.journal()
	if e := s.replace(logName(s.log), text); e != api.OK {
		return e
	}
	s.length, s.loose = len(text), false
	return api.OK
}

// journal tells the text of a log by which what is in memory comes again. (Of each key there is one version, as long as there are no snapshots.)
func (m memory) journal() string {
	var ops []api.Op
	for _, entry := range m.between("", "") {
		ops = append(ops, entry.Op)
	}
	var text strings.Builder
	for some := range slices.Chunk(ops, api.MaxBatch) {
		text.WriteString(journal.Encode(some))
	}
	return text.String()
}
