package simfs

import (
	"maps"
	"slices"

	"heron/api"
)

// inode is a file that has a name.
type inode struct {
	number int
	name   string
	gen    int
	bytes  []byte
	lasts  int // how many of the bytes last, from the first on
}

// lay lays bytes behind, if there is room for all of them.
func (f *inode) lay(b []byte) api.Errno {
	if len(b) > api.MaxFile-len(f.bytes) {
		return api.ErrFull
	}
	f.bytes = append(f.bytes, b...)
	return api.OK
}

// shorten leaves the first n bytes; with fewer bytes than there were another generation begins.
func (f *inode) shorten(n int) {
	if n == len(f.bytes) {
		return
	}
	f.bytes = append([]byte(nil), f.bytes[:n]...) // not a cut of the old ones, which would keep the room of all that went
	f.lasts = min(f.lasts, n)
	f.gen++
}

// synced tells whether every byte lasts.
func (f *inode) synced() bool { return f.lasts == len(f.bytes) }

// sync lets every byte last.
func (f *inode) sync() { f.lasts = len(f.bytes) }

// crash leaves so many of the bytes that were not synced, and these last.
func (f *inode) crash(stay int) {
	stay = min(max(stay, 0), len(f.bytes)-f.lasts)
	f.shorten(f.lasts + stay)
	f.sync()
}

// piece is a copy of size bytes from off on, or of as many as there are.
func (f *inode) piece(off, size int) []byte {
	rest := f.bytes[min(off, len(f.bytes)):]
	return append([]byte(nil), rest[:min(size, len(rest))]...) // size is held against what there is: off + size may be no number
}

// twin is another inode in the same state.
func (f *inode) twin() *inode {
	other := *f
	other.bytes = slices.Clone(f.bytes)
	return &other
}

// told is what is told of an inode.
func (d *Disk) told(f *inode) api.Stat {
	return api.Stat{Inode: f.number, Serial: d.names[f.name].serial, Gen: f.gen, Size: len(f.bytes)}
}

// rising hands each inode to see, by rising numbers: a map has no order of its own.
func (d *Disk) rising(see func(*inode)) {
	for _, n := range slices.Sorted(maps.Keys(d.inodes)) {
		see(d.inodes[n])
	}
}
