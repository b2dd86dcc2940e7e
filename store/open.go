package store

import (
	"slices"

	"strata/api"
	"strata/disk"
	"strata/journal"
)

const (
	logName   = "log"
	begunName = "log.new" // a log that is being written anew: it counts when it has the log's name
)

// Open takes a disk and reads the store that is on it. All that it finds is safe when it answers OK.
func Open(d *disk.Disk, policy int) (*Store, api.Errno) {
	if policy < api.Tiered || policy > api.Lazy {
		return nil, api.ErrArg
	}
	s := &Store{disk: d, turn: d.Take(), keys: memory{}}
	e := s.load()
	if d.Dead() {
		// It may have died when all was over and something was undone.
		e = api.ErrDead
	}
	if e != api.OK {
		return nil, e
	}
	return s, api.OK
}

func (s *Store) load() api.Errno {
	names, e := s.disk.Names()
	if e != api.OK {
		return e
	}
	if !areOurs(names) {
		return api.ErrBroken
	}
	if !slices.Contains(names, logName) {
		return api.OK
	}
	log, e := s.disk.Read(logName)
	if e != api.OK {
		return e
	}
	whole, e := s.replay(log)
	if e != api.OK {
		return e
	}
	if whole < len(log) {
		// New records would stand behind a piece of one, and never be found again.
		return s.rewrite()
	}
	return s.secure(len(log))
}

func areOurs(names []string) bool {
	for _, name := range names {
		if name != logName && name != begunName {
			return false
		}
	}
	return true
}

// replay does all batches of a log again, and tells how many of its bytes are whole records.
func (s *Store) replay(log string) (int, api.Errno) {
	whole := 0
	for whole < len(log) {
		ops, size, e := journal.Decode(log[whole:])
		if e != api.OK {
			return 0, e
		}
		if size == 0 {
			break
		}
		s.keys.do(ops)
		whole += size
	}
	return whole, api.OK
}

// rewrite puts another log in the place of the log: of what is in memory, and safe.
// Not a copy of the records that are whole: on a disk that is nearly full there may be no room for them.
func (s *Store) rewrite() api.Errno {
	// The disk may have died in the middle of this before.
	s.disk.Remove(begunName)
	// When all went well there is no file of this name any more, and nothing is taken away.
	defer s.disk.Remove(begunName)
	if e := s.disk.Write(begunName, ""); e != api.OK {
		return e
	}
	for ops := range slices.Chunk(s.keys.ops(), api.MaxBatch) {
		if e := s.disk.Write(begunName, journal.Encode(ops)); e != api.OK {
			return e
		}
	}
	if e := s.disk.Sync(begunName); e != api.OK {
		return e
	}
	return s.disk.Rename(begunName, logName)
}

// secure makes a log of so many bytes safe, if it is not.
func (s *Store) secure(length int) api.Errno {
	safe, e := s.disk.Safe(logName)
	if e != api.OK {
		return e
	}
	s.loose = safe < length
	return s.Sync()
}
