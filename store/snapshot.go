package store

import (
	"maps"
	"slices"

	"strata/api"
)

// Snapshot keeps the map as it is now, by a number.
func (s *Store) Snapshot() (int, api.Errno) {
	if e := s.Ready(); e != api.OK {
		return 0, e
	}
	if len(s.snaps) >= api.MaxSnaps {
		return 0, api.ErrSnap
	}
	s.taken++
	s.snaps[s.taken] = s.batch
	return s.taken, api.OK
}

// Release gives a snapshot up. What was kept for it alone goes when its layer is written anew.
func (s *Store) Release(id int) api.Errno {
	if _, e := s.batchOf(id); e != api.OK {
		return e
	}
	delete(s.snaps, id)
	return api.OK
}

// GetAt tells a key's value in the map that was kept.
func (s *Store) GetAt(id int, key string) (string, bool, api.Errno) {
	batch, e := s.batchOf(id)
	if e != api.OK {
		return "", false, e
	}
	return s.getBehind(batch, key)
}

// ScanAt tells keys and values of the map that was kept, as Scan does.
func (s *Store) ScanAt(id int, lo string, hi string, limit int) ([]api.Pair, api.Errno) {
	batch, e := s.batchOf(id)
	if e != api.OK {
		return nil, e
	}
	return s.scanBehind(batch, lo, hi, limit)
}

// batchOf tells behind which batch a snapshot was taken.
func (s *Store) batchOf(id int) (int, api.Errno) {
	if e := s.Ready(); e != api.OK {
		return 0, e
	}
	batch, ok := s.snaps[id]
	if !ok {
		return 0, api.ErrSnap
	}
	return batch, api.OK
}

// seen tells the batches behind which the live snapshots were taken.
func (s *Store) seen() []int {
	return slices.Sorted(maps.Values(s.snaps))
}

// lastSnap tells the last of these, or -1 if no snapshot is live.
func (s *Store) lastSnap() int {
	last := -1
	for _, batch := range s.snaps {
		last = max(last, batch)
	}
	return last
}
