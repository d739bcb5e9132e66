package simfs

import (
	"strings"

	"heron/api"
)

// label is what a name has.
type label struct {
	serial int
	inode  int // its number; 0: none
}

// mayBe tells whether a file may have that name.
func mayBe(name string) bool {
	return len(name) >= 1 && len(name) <= api.MaxName && strings.IndexByte(name, 0) < 0 && strings.IndexByte(name, '\n') < 0
}

// file is the inode that has a name.
func (d *Disk) file(name string) (*inode, api.Errno) {
	if !mayBe(name) {
		return nil, api.ErrName
	}
	l := d.names[name]
	if l == nil || l.inode == 0 {
		return nil, api.ErrNone
	}
	return d.inodes[l.inode], api.OK
}

// arrive gives an inode a name that no inode has.
func (d *Disk) arrive(f *inode, name string) {
	name = strings.Clone(name) // a name may be cut out of a great text, which would be kept with it
	l := d.names[name]
	if l == nil {
		l = &label{}
		d.names[name] = l
	}
	l.serial++
	l.inode = f.number
	f.name = name
}

// drop lets an inode go, with its bytes.
func (d *Disk) drop(f *inode) {
	d.names[f.name].inode = 0
	delete(d.inodes, f.number)
}
