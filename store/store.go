// Package store: a map of keys and values that stands in memory and, batch by batch, in a log on a disk.
package store

import (
	"strings"

	"strata/api"
	"strata/disk"
	"strata/journal"
)

// Store is the map of a disk. A nil one is like one that is not open.
type Store struct {
	disk  *disk.Disk
	turn  int // the disk's turn in which the store is open
	keys  memory
	loose bool // whether the log has bytes that are not safe
	stuck bool
}

// Ready tells why no call can be done now, if none can: the store is not open, or the disk is dead.
func (s *Store) Ready() api.Errno {
	switch {
	case s == nil || s.turn != s.disk.Turn():
		return api.ErrClosed
	case s.disk.Dead():
		return api.ErrDead
	}
	return api.OK
}

// Writable tells why nothing can be written now, if nothing can.
func (s *Store) Writable() api.Errno {
	if e := s.Ready(); e != api.OK {
		return e
	}
	if s.stuck {
		return api.ErrStuck
	}
	return api.OK
}

// Batch does ops as one: in the log first, so that the map never has what the disk has not.
func (s *Store) Batch(ops []api.Op) api.Errno {
	if e := s.Writable(); e != api.OK {
		return e
	}
	if !isBatch(ops) {
		return api.ErrArg
	}
	if e := s.disk.Write(logName, journal.Encode(ops)); e != api.OK {
		s.stuck = e == api.ErrFull
		return e
	}
	s.loose = true
	s.keys.do(ops)
	return api.OK
}

// Sync makes all batches that were done safe.
func (s *Store) Sync() api.Errno {
	if e := s.Writable(); e != api.OK {
		return e
	}
	if !s.loose {
		return api.OK
	}
	if e := s.disk.Sync(logName); e != api.OK {
		return e
	}
	s.loose = false
	return api.OK
}

// Get tells a key's value.
func (s *Store) Get(key string) (string, bool, api.Errno) {
	if e := s.Ready(); e != api.OK {
		return "", false, e
	}
	if !isKey(key) {
		return "", false, api.ErrArg
	}
	v, ok := s.keys[key]
	return strings.Clone(v.value), ok, api.OK
}

// Scan tells the first limit of the keys from lo on and, unless hi is empty, ahead of hi.
func (s *Store) Scan(lo string, hi string, limit int) ([]api.Pair, api.Errno) {
	if e := s.Ready(); e != api.OK {
		return nil, e
	}
	if limit < 0 {
		return nil, api.ErrArg
	}
	var pairs []api.Pair
	for pair := range s.keys.scan(lo, hi) {
		if len(pairs) == limit {
			break
		}
		// The texts too are the caller's own.
		pairs = append(pairs, api.Pair{Key: strings.Clone(pair.Key), Value: strings.Clone(pair.Value)})
	}
	return pairs, api.OK
}

func isBatch(ops []api.Op) bool {
	if len(ops) < 1 || len(ops) > api.MaxBatch {
		return false
	}
	for _, op := range ops {
		if !isKey(op.Key) || !op.Delete && len(op.Value) > api.MaxValue {
			return false
		}
	}
	return true
}

func isKey(key string) bool {
	return len(key) >= 1 && len(key) <= api.MaxKey
}
