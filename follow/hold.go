package follow

import (
	"heron/api"
	"heron/simfs"
)

// arrival tells of the path's present inode, and whether that came behind the one that was taken up last.
func (f *follower) arrival(d *simfs.Disk) (api.Stat, bool) {
	s, e := d.Stat(f.name)
	return s, e == api.OK && s.Serial > f.Serial
}

// takeUp holds an arrival, and counts those that were never held.
func (f *follower) takeUp(s api.Stat) {
	raise(&f.Loss.Missed, s.Serial-f.Serial-1)
	f.Serial = s.Serial
	f.hold(s.Inode, s.Gen)
}

// lose lets go of an inode that is gone.
func (f *follower) lose() {
	raise(&f.Loss.Gone, 1)
	f.hold(0, 0)
}

// hold reads a generation of an inode (0: none) from its first byte on.
func (f *follower) hold(inode, gen int) {
	f.Inode, f.Gen, f.Off = inode, gen, 0
	f.Drop()
}
