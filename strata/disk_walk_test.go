package strata_test

import (
	"fmt"
	"math/rand"
	"slices"
	"strings"
	"testing"

	"strata/api"
	"strata/strata"
)

// plainDisk does what P3 to P5 say in the plainest way: a list of files, searched and summed up anew each time.
type plainDisk struct {
	files []plainFile
	quota int
	fuse  int // below 0: none
	dead  bool
}

type plainFile struct {
	name, bytes string
	safe        int
}

func (p *plainDisk) find(name string) int {
	return slices.IndexFunc(p.files, func(f plainFile) bool { return f.name == name })
}

func (p *plainDisk) total() int {
	n := 0
	for _, f := range p.files {
		n += len(f.bytes)
	}
	return n
}

// change does a change that is not refused, if the fuse lets it.
func (p *plainDisk) change(do func()) api.Errno {
	if p.fuse == 0 {
		p.dead = true
		return api.ErrDead
	}
	p.fuse--
	do()
	return api.OK
}

func plainName(name string) bool {
	return name != "" && len(name) <= 20 && strings.Trim(name, "abcdefghijklmnopqrstuvwxyz0123456789.") == ""
}

func (p *plainDisk) write(name string, bytes string) api.Errno {
	if p.dead {
		return api.ErrDead
	}
	if !plainName(name) {
		return api.ErrArg
	}
	if p.total()+len(bytes) > p.quota {
		return api.ErrFull
	}
	return p.change(func() {
		if p.find(name) < 0 {
			p.files = append(p.files, plainFile{name: name})
		}
		p.files[p.find(name)].bytes += bytes
	})
}

func (p *plainDisk) sync(name string) api.Errno {
	i := p.find(name)
	if p.dead {
		return api.ErrDead
	}
	if i < 0 {
		return api.ErrFile
	}
	return p.change(func() { p.files[i].safe = len(p.files[i].bytes) })
}

func (p *plainDisk) rename(from string, to string) api.Errno {
	if p.dead {
		return api.ErrDead
	}
	if !plainName(to) {
		return api.ErrArg
	}
	if p.find(from) < 0 {
		return api.ErrFile
	}
	return p.change(func() {
		if i := p.find(to); i >= 0 && from != to {
			p.files = slices.Delete(p.files, i, i+1)
		}
		p.files[p.find(from)].name = to
	})
}

func (p *plainDisk) remove(name string) api.Errno {
	i := p.find(name)
	if p.dead {
		return api.ErrDead
	}
	if i < 0 {
		return api.ErrFile
	}
	return p.change(func() { p.files = slices.Delete(p.files, i, i+1) })
}

func (p *plainDisk) setFuse(n int) {
	if !p.dead {
		p.fuse = n
	}
}

func (p *plainDisk) crash(keep []int) {
	slices.SortFunc(p.files, func(a, b plainFile) int { return strings.Compare(a.name, b.name) })
	for i := range p.files {
		f := &p.files[i]
		left := f.safe
		for k := 0; i < len(keep) && k < keep[i] && left < len(f.bytes); k++ {
			left++
		}
		f.bytes, f.safe = f.bytes[:left], left
	}
	p.fuse, p.dead = -1, false
}

// step does one thing on both disks: what it was, and what they answered.
func step(r *rand.Rand, d *strata.Disk, p *plainDisk) (string, api.Errno, api.Errno) {
	names := []string{"a", "b", "ab", ".", "9", "zz", "", "A"}
	name, other := names[r.Intn(len(names))], names[r.Intn(len(names))]
	bytes := strings.Repeat(string(rune('a'+r.Intn(26))), r.Intn(12))
	switch r.Intn(16) {
	case 0, 1, 2, 3, 4, 5:
		return fmt.Sprintf("Write(%q, %q)", name, bytes), d.Write(name, bytes), p.write(name, bytes)
	case 6, 7, 8:
		return fmt.Sprintf("Sync(%q)", name), d.Sync(name), p.sync(name)
	case 9, 10, 11:
		return fmt.Sprintf("Rename(%q, %q)", name, other), d.Rename(name, other), p.rename(name, other)
	case 12, 13:
		return fmt.Sprintf("Remove(%q)", name), d.Remove(name), p.remove(name)
	case 14:
		n := r.Intn(12) - 2
		d.Fuse(n)
		p.setFuse(n)
		return fmt.Sprintf("Fuse(%d)", n), api.OK, api.OK
	}
	keep := make([]int, r.Intn(7))
	for i := range keep {
		keep[i] = r.Intn(20) - 4
	}
	d.Crash(keep)
	p.crash(keep)
	return fmt.Sprintf("Crash(%v)", keep), api.OK, api.OK
}

// look tells all that the disk tells of itself.
func look(d *strata.Disk) string {
	names, e := d.Names()
	all := fmt.Sprint(e)
	for _, name := range names {
		bytes, e := d.Read(name)
		safe, f := d.Safe(name)
		all += fmt.Sprintf(" %q %q %d %d %d", name, bytes, safe, e, f)
	}
	return all
}

func (p *plainDisk) look() string {
	if p.dead {
		return fmt.Sprint(api.ErrDead)
	}
	files := slices.Clone(p.files)
	slices.SortFunc(files, func(a, b plainFile) int { return strings.Compare(a.name, b.name) })
	all := fmt.Sprint(api.OK)
	for _, f := range files {
		all += fmt.Sprintf(" %q %q %d %d %d", f.name, f.bytes, f.safe, api.OK, api.OK)
	}
	return all
}

// P3 to P5 together: a disk answers as the plain one does, whatever is done with it, in whatever order.
func TestTheDiskIsLikeThePlainOne(t *testing.T) {
	for seed := range int64(400) {
		r := rand.New(rand.NewSource(seed))
		quota := r.Intn(60)
		d, p := newDisk(t, quota), &plainDisk{quota: quota, fuse: -1}
		for i := range 200 {
			what, got, want := step(r, d, p)
			if got != want {
				t.Fatalf("walk %d, step %d: %s = %d, want %d", seed, i, what, got, want)
			}
			if is, should := look(d), p.look(); is != should {
				t.Fatalf("walk %d, step %d: behind %s the disk is\n%s, want\n%s", seed, i, what, is, should)
			}
		}
	}
}
