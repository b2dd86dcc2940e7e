// Package store: a map of keys and values in layers: what is in memory, which stands in a log on a disk too, and tables on the disk.
package store

import (
	"strings"

	"strata/api"
	"strata/disk"
	"strata/journal"
	"strata/layer"
	"strata/shape"
)

// Store is the map of a disk. A nil one is like one that is not open.
type Store struct {
	disk   *disk.Disk
	turn   int // the disk's turn in which the store is open
	policy int
	memory memory
	tables []table     // the oldest first
	next   int         // the number of the next table
	log    int         // the number of the log
	length int         // how many bytes the log has
	batch  int         // how many batches were done since the store was opened
	snaps  map[int]int // the live snapshots: how many batches were done when each was taken
	taken  int         // how many snapshots were taken since the store was opened
	loose  bool        // whether the log has bytes that are not safe
	stuck  bool
}

// Ready tells why no call can be done now, if none can: the store is not open, or the disk is dead.
func (s *Store) Ready() api.Errno {
	switch {
	case s == nil || s.turn != s.disk.Turn():
		return api.ErrClosed
	case s.disk.Dead():
		return api.ErrDead
	}
	return api.OK
}

// Writable tells why nothing can be written now, if nothing can.
func (s *Store) Writable() api.Errno {
	if e := s.Ready(); e != api.OK {
		return e
	}
	if s.stuck {
		return api.ErrStuck
	}
	return api.OK
}

// outcome tells what a call answers that came to this: the disk may have died when all was over and something was undone.
func (s *Store) outcome(e api.Errno) api.Errno {
	if s.disk.Dead() {
		return api.ErrDead
	}
	return e
}

// Batch does ops as one: in the log first, so that the map never has what the disk has not.
func (s *Store) Batch(ops []api.Op) api.Errno {
	if e := s.Writable(); e != api.OK {
		return e
	}
	if !isBatch(ops) {
		return api.ErrArg
	}
	record := journal.Encode(ops)
	if e := s.disk.Write(logName(s.log), record); e != api.OK {
		s.stuck = e == api.ErrFull
		return e
	}
	s.loose = true
	s.length += len(record)
	s.batch++
	s.memory.do(ops, s.batch, s.lastSnap())
	return s.outcome(s.tend())
}

// tend does behind a batch what keeps the log short and the tables in shape. A full disk is no reason to refuse the batch: it is done.
func (s *Store) tend() api.Errno {
	e := api.OK
	if s.length >= shape.Unit {
		e = s.flush()
	} else {
		// They may be out of it since the store was opened, by another policy than the one before.
		e = s.settle(s.tables, s.log)
	}
	if e == api.ErrFull {
		return api.OK
	}
	return e
}

// Sync makes all batches that were done safe.
func (s *Store) Sync() api.Errno {
	if e := s.Writable(); e != api.OK {
		return e
	}
	if !s.loose {
		return api.OK
	}
	if e := s.disk.Sync(logName(s.log)); e != api.OK {
		return e
	}
	s.loose = false
	return api.OK
}

// Get tells a key's value.
func (s *Store) Get(key string) (string, bool, api.Errno) {
	if e := s.Ready(); e != api.OK {
		return "", false, e
	}
	return s.getBehind(s.batch, key)
}

// Scan tells the first limit of the keys from lo on and, unless hi is empty, ahead of hi.
func (s *Store) Scan(lo string, hi string, limit int) ([]api.Pair, api.Errno) {
	if e := s.Ready(); e != api.OK {
		return nil, e
	}
	return s.scanBehind(s.batch, lo, hi, limit)
}

func (s *Store) getBehind(batch int, key string) (string, bool, api.Errno) {
	if !isKey(key) {
		return "", false, api.ErrArg
	}
	for _, entries := range s.layersOf(key) {
		if entry, ok := layer.Find(entries, key, batch); ok {
			return strings.Clone(entry.Value), !entry.Delete, api.OK
		}
	}
	return "", false, api.OK
}

func (s *Store) scanBehind(batch int, lo string, hi string, limit int) ([]api.Pair, api.Errno) {
	if limit < 0 {
		return nil, api.ErrArg
	}
	var pairs []api.Pair
	for pair := range layer.Behind(batch, layer.Merge(s.layersBetween(lo, hi))) {
		if len(pairs) == limit {
			break
		}
		// The texts too are the caller's own.
		pairs = append(pairs, api.Pair{Key: strings.Clone(pair.Key), Value: strings.Clone(pair.Value)})
	}
	return pairs, api.OK
}

// layersOf tells the layers in which a key may be, the newest first.
func (s *Store) layersOf(key string) [][]layer.Entry {
	return append([][]layer.Entry{s.memory[key]}, newestFirst(s.tables)...)
}

// layersBetween tells what the layers have of the keys from lo on and, unless hi is empty, ahead of hi, the newest first.
func (s *Store) layersBetween(lo string, hi string) [][]layer.Entry {
	layers := [][]layer.Entry{s.memory.between(lo, hi)}
	for _, entries := range newestFirst(s.tables) {
		layers = append(layers, layer.Between(entries, lo, hi))
	}
	return layers
}

func isBatch(ops []api.Op) bool {
	if len(ops) < 1 || len(ops) > api.MaxBatch {
		return false
	}
	for _, op := range ops {
		if !isKey(op.Key) || !op.Delete && len(op.Value) > api.MaxValue {
			return false
		}
	}
	return true
}

func isKey(key string) bool {
	return len(key) >= 1 && len(key) <= api.MaxKey
}
