package follow

import (
	"heron/api"
	"heron/lines"
	"heron/simfs"
)

// follower is one path's reading: the line under way, and the mark at its start.
type follower struct {
	*lines.Maker
	api.Mark
	name  string
	chunk int
}

// turn is one Step: the disk that it is handed, and what it answers.
type turn struct {
	disk  *simfs.Disk
	line  api.Line
	whole bool
}

// step does the first of the steps that applies; the sixth is that none does.
func (f *follower) step(t *turn) {
	for _, applies := range []func(*turn) bool{f.begin, f.seeGone, f.beginAgain, f.read, f.goOver} {
		if applies(t) {
			return
		}
	}
}

// begin is the first step: none is held.
func (f *follower) begin(t *turn) bool {
	if f.Inode != 0 {
		return false
	}
	if s, further := f.arrival(t.disk); further {
		f.takeUp(s)
	}
	return true
}

// seeGone is the second: what is held is gone.
func (f *follower) seeGone(t *turn) bool {
	if _, e := t.disk.Inode(f.Inode); e == api.OK {
		return false
	}
	f.lose()
	return true
}

// beginAgain is the third: what is held has another generation.
func (f *follower) beginAgain(t *turn) bool {
	s, _ := t.disk.Inode(f.Inode)
	if s.Gen == f.Gen {
		return false
	}
	raise(&f.Loss.Cuts, max(s.Gen-f.Gen, 0))
	f.hold(f.Inode, s.Gen)
	return true
}

// read is the fourth: there are bytes to read.
func (f *follower) read(t *turn) bool {
	stands := f.Off + f.Begun()
	b, _ := t.disk.Read(f.Inode, f.Gen, stands, f.chunk)
	if len(b) == 0 {
		return false
	}
	text, taken, whole := f.Feed(b)
	if f.Begun() > 0 { // no newline: that would have left no byte of the line under way
		return true
	}
	if whole {
		t.line, t.whole = api.Line{Mark: f.Mark, Text: text}, true
	} else {
		raise(&f.Loss.Long, 1)
	}
	f.Off = stands + taken
	return true
}

// goOver is the fifth: all is read, and the name has had a further arrival. Taking that up lets go of what was held.
func (f *follower) goOver(t *turn) bool {
	s, further := f.arrival(t.disk)
	if !further {
		return false
	}
	if f.Begun() > 0 {
		raise(&f.Loss.Tails, 1)
	}
	f.takeUp(s)
	return true
}
