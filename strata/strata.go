// Package strata: a store of keys and values in layers, and the disk it stands on: see DOC.md.
package strata

import (
	"strata/api"
	"strata/disk"
	"strata/store"
)

// Disk holds files.
type Disk struct {
	files *disk.Disk
}

// NewDisk makes a disk (P3).
func NewDisk(quota int) (*Disk, api.Errno) {
	files, e := disk.New(quota)
	if e != api.OK {
		return nil, e
	}
	return &Disk{files: files}, api.OK
}

// inner is nil, too, for the nil that NewDisk answers with an error: no call panics on it.
func (d *Disk) inner() *disk.Disk {
	if d == nil {
		return nil
	}
	return d.files
}

// Write puts bytes behind a file (P4).
func (d *Disk) Write(name string, bytes string) api.Errno { return d.inner().Write(name, bytes) }

// Sync makes a file's bytes safe (P4).
func (d *Disk) Sync(name string) api.Errno { return d.inner().Sync(name) }

// Rename gives a file another name (P4).
func (d *Disk) Rename(from string, to string) api.Errno { return d.inner().Rename(from, to) }

// Remove takes a file away (P4).
func (d *Disk) Remove(name string) api.Errno { return d.inner().Remove(name) }

// Read tells a file's bytes (P4).
func (d *Disk) Read(name string) (string, api.Errno) { return d.inner().Read(name) }

// Safe tells how many of a file's bytes are safe (P4).
func (d *Disk) Safe(name string) (int, api.Errno) { return d.inner().Safe(name) }

// Names tells which files there are (P4).
func (d *Disk) Names() ([]string, api.Errno) { return d.inner().Names() }

// Fuse lets the disk die behind some changes (P5).
func (d *Disk) Fuse(n int) { d.inner().Fuse(n) }

// Crash brings the disk back (P5).
func (d *Disk) Crash(keep []int) { d.inner().Crash(keep) }

// Store holds keys and values.
type Store struct {
	keys *store.Store
}

// Open opens the store on a disk (P6).
func Open(d *Disk, policy int) (*Store, api.Errno) {
	if d == nil {
		return nil, api.ErrArg
	}
	keys, e := store.Open(d.files, policy)
	if e != api.OK {
		return nil, e
	}
	return &Store{keys: keys}, api.OK
}

// inner is nil, too, for the nil that Open answers with an error: no call panics on it.
func (s *Store) inner() *store.Store {
	if s == nil {
		return nil
	}
	return s.keys
}

// Put gives a key a value (P7).
func (s *Store) Put(key string, value string) api.Errno {
	return s.Batch([]api.Op{{Key: key, Value: value}})
}

// Delete takes a key away (P7).
func (s *Store) Delete(key string) api.Errno {
	return s.Batch([]api.Op{{Key: key, Delete: true}})
}

// Batch does several of these as one (P7).
func (s *Store) Batch(ops []api.Op) api.Errno { return s.inner().Batch(ops) }

// Get tells a key's value (P8).
func (s *Store) Get(key string) (string, bool, api.Errno) { return s.inner().Get(key) }

// Scan tells keys and values in order (P8).
func (s *Store) Scan(lo string, hi string, limit int) ([]api.Pair, api.Errno) {
	return s.inner().Scan(lo, hi, limit)
}

// Snapshot keeps what is there now (P9).
func (s *Store) Snapshot() (int, api.Errno) { return s.inner().Snapshot() }

// Release gives a snapshot up (P9).
func (s *Store) Release(id int) api.Errno { return s.inner().Release(id) }

// GetAt tells a key's value at a snapshot (P9).
func (s *Store) GetAt(id int, key string) (string, bool, api.Errno) {
	return s.inner().GetAt(id, key)
}

// ScanAt tells keys and values in order at a snapshot (P9).
func (s *Store) ScanAt(id int, lo string, hi string, limit int) ([]api.Pair, api.Errno) {
	return s.inner().ScanAt(id, lo, hi, limit)
}

// Flush writes what is in memory to a table (P10).
func (s *Store) Flush() api.Errno { return s.inner().Flush() }

// Compact merges all tables (P11).
func (s *Store) Compact() api.Errno { return s.inner().Compact() }

// Tables tells which tables there are (P10).
func (s *Store) Tables() ([]api.Table, api.Errno) { return s.inner().Tables() }

// Merge merges some tables (P12).
func (s *Store) Merge(numbers []int) api.Errno { return s.inner().Merge(numbers) }

// Sync makes all that was done safe (P14).
func (s *Store) Sync() api.Errno { return s.inner().Sync() }
