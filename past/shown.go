package past

import (
	"heron/api"
	"heron/simfs"
)

// generation is one of an inode's.
type generation struct{ inode, gen int }

// label is what a name has had.
type label struct {
	serial int   // of the last arrival
	inodes []int // of all arrivals, in their order
}

// arrive adds the inode that a name is shown with, if that is a further arrival.
func (p *Past) arrive(name string, s api.Stat) {
	l := p.names[name]
	if s.Serial > l.serial {
		p.names[name] = label{serial: s.Serial, inodes: append(l.inodes, s.Inode)}
	}
}

// grow adds what an inode's generation has more than was shown of it.
func (p *Past) grow(d *simfs.Disk, s api.Stat) {
	p.gens[s.Inode] = max(p.gens[s.Inode], s.Gen+1)
	g := generation{s.Inode, s.Gen}
	known := p.shown[g]
	if s.Size <= len(known) {
		return
	}
	// What is known is not read again, since in one generation bytes never change: a file that is shown at every step would cost its length each time.
	more, _ := d.Read(s.Inode, s.Gen, len(known), s.Size-len(known))
	p.shown[g] = append(known, more...)
}
