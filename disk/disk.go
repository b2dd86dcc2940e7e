// Package disk: files in memory that can be full, and that lose in a crash what was not made safe.
package disk

import (
	"maps"
	"slices"
	"strings"

	"strata/api"
)

const noFuse = -1

// Disk holds files. A nil one is like a dead one that no crash brings back.
type Disk struct {
	files map[string]*file
	room  int // how many bytes more the quota allows
	fuse  int // how many changes more are done, or noFuse
	dead  bool
	turn  int // how often it has crashed or was taken
}

type file struct {
	bytes []byte
	safe  int // how many of the first bytes no crash takes
}

// New makes a disk without files on which there is room for quota bytes.
func New(quota int) (*Disk, api.Errno) {
	if quota < 0 || quota > api.MaxQuota {
		return nil, api.ErrArg
	}
	return &Disk{files: map[string]*file{}, room: quota, fuse: noFuse}, api.OK
}

// Write puts bytes, which are not safe, behind those of a file, and makes the file if there is none.
func (d *Disk) Write(name string, bytes string) api.Errno {
	switch {
	case d.Dead():
		return api.ErrDead
	case !isName(name):
		return api.ErrArg
	case len(bytes) > d.room:
		return api.ErrFull
	case d.blows():
		return api.ErrDead
	}
	f := d.files[name]
	if f == nil {
		f = &file{}
		d.add(name, f)
	}
	f.bytes = append(f.bytes, bytes...)
	d.room -= len(bytes)
	return api.OK
}

// Sync makes all bytes of a file safe.
func (d *Disk) Sync(name string) api.Errno {
	f, e := d.find(name)
	if e != api.OK {
		return e
	}
	if d.blows() {
		return api.ErrDead
	}
	f.safe = len(f.bytes)
	return api.OK
}

// Rename gives a file another name, in the place of the file that had it.
func (d *Disk) Rename(from string, to string) api.Errno {
	if !d.Dead() && !isName(to) {
		return api.ErrArg
	}
	f, e := d.find(from)
	if e != api.OK {
		return e
	}
	if d.blows() {
		return api.ErrDead
	}
	// Taken out first, so that a file renamed to its own name is not the one that has to go.
	delete(d.files, from)
	if old := d.files[to]; old != nil {
		d.drop(to, old)
	}
	d.add(to, f)
	return api.OK
}

// Remove takes a file away.
func (d *Disk) Remove(name string) api.Errno {
	f, e := d.find(name)
	if e != api.OK {
		return e
	}
	if d.blows() {
		return api.ErrDead
	}
	d.drop(name, f)
	return api.OK
}

// Read tells the bytes of a file.
func (d *Disk) Read(name string) (string, api.Errno) {
	f, e := d.find(name)
	if e != api.OK {
		return "", e
	}
	return string(f.bytes), api.OK
}

// Safe tells how many bytes of a file are safe.
func (d *Disk) Safe(name string) (int, api.Errno) {
	f, e := d.find(name)
	if e != api.OK {
		return 0, e
	}
	return f.safe, api.OK
}

// Names tells the names of all files, in order.
func (d *Disk) Names() ([]string, api.Errno) {
	if d.Dead() {
		return nil, api.ErrDead
	}
	names := make([]string, 0, len(d.files))
	for _, name := range d.order() {
		// The texts too are the caller's own.
		names = append(names, strings.Clone(name))
	}
	return names, api.OK
}

// Fuse lets the disk die behind n changes more, or never if n is below 0.
func (d *Disk) Fuse(n int) {
	if d.Dead() {
		return
	}
	d.fuse = max(n, noFuse)
}

// Crash takes from each file what was not safe, but for the first keep[i] bytes of that of the i-th, and brings the disk back.
func (d *Disk) Crash(keep []int) {
	if d == nil {
		return
	}
	for i, name := range d.order() {
		n := 0
		if i < len(keep) {
			n = keep[i]
		}
		d.crash(d.files[name], n)
	}
	d.fuse = noFuse
	d.dead = false
	d.turn++
}

// Take begins a new turn and tells its number: whoever holds the disk from an earlier turn holds it no more.
func (d *Disk) Take() int {
	if d != nil {
		d.turn++
	}
	return d.Turn()
}

// Turn tells the number of the turn that lasts till the disk crashes or is taken again.
func (d *Disk) Turn() int {
	if d == nil {
		return 0
	}
	return d.turn
}

// Dead tells whether the disk is dead.
func (d *Disk) Dead() bool {
	return d == nil || d.dead
}

func (d *Disk) crash(f *file, keep int) {
	left := f.safe + min(max(keep, 0), len(f.bytes)-f.safe)
	if lost := len(f.bytes) - left; lost > 0 {
		// A copy: else the lost bytes would be held in memory for as long as the file is there.
		f.bytes = slices.Clone(f.bytes[:left])
		d.room += lost
	}
	f.safe = left
}

// blows burns one change off the fuse; if none was left on it, the disk is dead and the change may not be done.
// It is asked last: a change that is refused for another reason burns nothing.
func (d *Disk) blows() bool {
	if d.fuse == 0 {
		d.dead = true
		return true
	}
	d.fuse = max(d.fuse-1, noFuse)
	return false
}

func (d *Disk) find(name string) (*file, api.Errno) {
	if d.Dead() {
		return nil, api.ErrDead
	}
	f := d.files[name]
	if f == nil {
		return nil, api.ErrFile
	}
	return f, api.OK
}

func (d *Disk) add(name string, f *file) {
	// A copy: the caller's text is not kept.
	d.files[strings.Clone(name)] = f
}

func (d *Disk) drop(name string, f *file) {
	d.room += len(f.bytes)
	delete(d.files, name)
}

func (d *Disk) order() []string {
	return slices.Sorted(maps.Keys(d.files))
}

func isName(name string) bool {
	if len(name) < 1 || len(name) > api.MaxName {
		return false
	}
	for i := range len(name) {
		if !isNameByte(name[i]) {
			return false
		}
	}
	return true
}

func isNameByte(c byte) bool {
	return 'a' <= c && c <= 'z' || '0' <= c && c <= '9' || c == '.'
}
