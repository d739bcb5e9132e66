package simfs_test

import (
	"fmt"
	"math/rand"
	"slices"
	"strings"

	"heron/api"
)

// What the tests hold the package against: the chapter's words in another way, slow and plain.

// slowByte is a byte of an inode, and whether it lasts.
type slowByte struct {
	b     byte
	lasts bool
}

// slowInode is an inode, gone or not.
type slowInode struct {
	name  string // "": it is gone
	gen   int
	bytes []slowByte
}

// slowDisk keeps every inode that there ever was (inode n at n - 1), and every arrival by its name.
type slowDisk struct {
	inodes   []slowInode
	arrivals []string
}

// slowName tells whether a name may be.
func slowName(name string) bool {
	for _, b := range []byte(name) {
		if b == 0 || b == 10 {
			return false
		}
	}
	return name != "" && len(name) < 33
}

// file is the inode of a name.
func (d *slowDisk) file(name string) (*slowInode, api.Errno) {
	if !slowName(name) {
		return nil, api.ErrName
	}
	for i := range d.inodes {
		if d.inodes[i].name == name {
			return &d.inodes[i], api.OK
		}
	}
	return nil, api.ErrNone
}

// told is what is told of inode n, which isn't gone.
func (d *slowDisk) told(n int) api.Stat {
	f := d.inodes[n-1]
	s := api.Stat{Inode: n, Gen: f.gen, Size: len(f.bytes)}
	for _, name := range d.arrivals {
		if name == f.name {
			s.Serial++
		}
	}
	return s
}

// gone tells whether inode n is gone or never was.
func (d *slowDisk) gone(n int) bool {
	return n < 1 || n > len(d.inodes) || d.inodes[n-1].name == ""
}

// Create is P14.2.
func (d *slowDisk) Create(name string) api.Errno {
	if !slowName(name) {
		return api.ErrName
	}
	if _, e := d.file(name); e == api.OK {
		return api.ErrThere
	}
	d.inodes = append(d.inodes, slowInode{name: name})
	d.arrivals = append(d.arrivals, name)
	return api.OK
}

// Append is P14.3.
func (d *slowDisk) Append(name string, b []byte) api.Errno {
	f, e := d.file(name)
	if e != api.OK {
		return e
	}
	if len(f.bytes)+len(b) > 1048576 {
		return api.ErrFull
	}
	for _, c := range b {
		f.bytes = append(f.bytes, slowByte{b: c})
	}
	return api.OK
}

// Cut is P14.4.
func (d *slowDisk) Cut(name string) api.Errno {
	f, e := d.file(name)
	if e == api.OK && len(f.bytes) > 0 {
		f.bytes = nil
		f.gen++
	}
	return e
}

// Rename is P14.5.
func (d *slowDisk) Rename(old, other string) api.Errno {
	if !slowName(old) || !slowName(other) {
		return api.ErrName
	}
	f, e := d.file(old)
	if e != api.OK || old == other {
		return e
	}
	d.Remove(other)
	f.name = other
	d.arrivals = append(d.arrivals, other)
	return api.OK
}

// Remove is P14.6.
func (d *slowDisk) Remove(name string) api.Errno {
	f, e := d.file(name)
	if e == api.OK {
		*f = slowInode{}
	}
	return e
}

// Sync is P14.7.
func (d *slowDisk) Sync(name string) api.Errno {
	f, e := d.file(name)
	if e == api.OK {
		for i := range f.bytes {
			f.bytes[i].lasts = true
		}
	}
	return e
}

// Stat is P14.8.
func (d *slowDisk) Stat(name string) (api.Stat, api.Errno) {
	if _, e := d.file(name); e != api.OK {
		return api.Stat{}, e
	}
	n := 1 + slices.IndexFunc(d.inodes, func(f slowInode) bool { return f.name == name })
	return d.told(n), api.OK
}

// Inode is P14.9.
func (d *slowDisk) Inode(n int) (api.Stat, api.Errno) {
	if d.gone(n) {
		return api.Stat{}, api.ErrGone
	}
	return d.told(n), api.OK
}

// Read is P14.10.
func (d *slowDisk) Read(n, gen, off, size int) ([]byte, api.Errno) {
	if off < 0 || size < 0 {
		return nil, api.ErrInval
	}
	if d.gone(n) {
		return nil, api.ErrGone
	}
	if d.inodes[n-1].gen != gen {
		return nil, api.ErrGen
	}
	var out []byte
	for i, b := range d.inodes[n-1].bytes {
		if i >= off && len(out) < size {
			out = append(out, b.b)
		}
	}
	return out, api.OK
}

// Names is P14.11.
func (d *slowDisk) Names() []string {
	var out []string
	for _, f := range d.inodes {
		if f.name == "" {
			continue
		}
		at := 0
		for at < len(out) && strings.Compare(out[at], f.name) < 0 {
			at++
		}
		out = slices.Insert(out, at, f.name)
	}
	return out
}

// Crash is P14.12.
func (d *slowDisk) Crash(keep []int) {
	k := 0
	for i := range d.inodes {
		f := &d.inodes[i]
		var stays []slowByte
		unsynced, kept := 0, 0
		for _, b := range f.bytes {
			if !b.lasts {
				unsynced++
				if k >= len(keep) || kept >= keep[k] {
					continue
				}
				kept++
			}
			stays = append(stays, slowByte{b.b, true})
		}
		if unsynced > 0 {
			k++
		}
		if kept < unsynced {
			f.gen++
		}
		f.bytes = stays
	}
}

// Copy is P14.13.
func (d *slowDisk) Copy() *slowDisk {
	other := &slowDisk{arrivals: slices.Clone(d.arrivals), inodes: slices.Clone(d.inodes)}
	for i := range other.inodes {
		other.inodes[i].bytes = slices.Clone(d.inodes[i].bytes)
	}
	return other
}

// state is all that a disk can be asked without a change, but for what lasts.
func (d *slowDisk) state() string {
	var b strings.Builder
	for i, f := range d.inodes {
		if f.name == "" {
			continue
		}
		s := d.told(i + 1)
		fmt.Fprintf(&b, "%q %v ", f.name, s)
		for _, c := range f.bytes {
			b.WriteByte(c.b)
		}
		b.WriteByte('\n')
	}
	return b.String()
}

// chooser chooses by chance.
type chooser struct{ *rand.Rand }

// chance is one that always chooses alike.
func chance(seed int64) chooser { return chooser{rand.New(rand.NewSource(seed))} }

// name is a name, mostly one of few.
func (c chooser) name() string {
	few := []string{"a", "b", "log", "log.1", "A", "\xff", "ab", strings.Repeat("x", 32)}
	wrong := []string{"", "\n", "a\x00", strings.Repeat("x", 33)}
	if c.Intn(20) == 0 {
		return wrong[c.Intn(len(wrong))]
	}
	return few[c.Intn(len(few))]
}

// text is a few bytes, or none.
func (c chooser) text() []byte {
	b := make([]byte, c.Intn(6))
	for i := range b {
		b[i] = "abc\n\x00\xff"[c.Intn(6)]
	}
	return b
}

// keep is a list for Crash.
func (c chooser) keep() []int {
	var list []int
	for range c.Intn(7) {
		list = append(list, c.Intn(9)-2)
	}
	return list
}
