package past_test

import (
	"fmt"
	"math/rand"
	"slices"
	"strings"

	"heron/api"
	"heron/past"
	"heron/simfs"
)

// What the tests hold the package against: the chapter's words in another way, slow and plain.

// slowFile is a file as it was shown.
type slowFile struct {
	name  string
	stat  api.Stat
	bytes string
}

// slowPast keeps every file of every showing, one behind the other, and works each answer out of all of them.
type slowPast struct{ shown []slowFile }

// See is P15.1.
func (p *slowPast) See(d *simfs.Disk) {
	for _, name := range d.Names() {
		s, _ := d.Stat(name)
		b, _ := d.Read(s.Inode, s.Gen, 0, s.Size)
		p.shown = append(p.shown, slowFile{name, s, string(b)})
	}
}

// Lines is P15.3: of the longest bytes that were shown, cut behind each newline, the pieces that have one.
func (p *slowPast) Lines(inode, gen int) ([]string, []int) {
	most := ""
	for _, f := range p.shown {
		if f.stat.Inode == inode && f.stat.Gen == gen && len(f.bytes) > len(most) {
			most = f.bytes
		}
	}
	var lines []string
	var places []int
	place := 0
	for _, piece := range strings.SplitAfter(most, "\n") {
		if line, whole := strings.CutSuffix(piece, "\n"); whole {
			lines, places = append(lines, line), append(places, place)
		}
		place += len(piece)
	}
	return lines, places
}

// Stood is P15.2: one of the lines, at its place.
func (p *slowPast) Stood(inode, gen, off int, line string) bool {
	lines, places := p.Lines(inode, gen)
	for i := range lines {
		if lines[i] == line && places[i] == off {
			return true
		}
	}
	return false
}

// Arrivals is P15.4.
func (p *slowPast) Arrivals(name string) []int {
	var inodes []int
	last := 0
	for _, f := range p.shown {
		if f.name == name && f.stat.Serial > last {
			inodes, last = append(inodes, f.stat.Inode), f.stat.Serial
		}
	}
	return inodes
}

// Gens is P15.4.
func (p *slowPast) Gens(inode int) int {
	gens := 0
	for _, f := range p.shown {
		if f.stat.Inode == inode {
			gens = max(gens, f.stat.Gen+1)
		}
	}
	return gens
}

// seer is what a past can do, and the slow one too.
type seer interface {
	See(d *simfs.Disk)
	Stood(inode, gen, off int, line string) bool
	Lines(inode, gen int) ([]string, []int)
	Arrivals(name string) []int
	Gens(inode int) int
}

var _ = []seer{(*past.Past)(nil), (*slowPast)(nil)}

// told is all that a past tells of some names and of the inodes up to a number, of each one generation more than it has.
func told(p seer, highest int, names ...string) string {
	var b strings.Builder
	for _, name := range names {
		fmt.Fprintf(&b, "%q: %v\n", name, p.Arrivals(name))
	}
	for inode := -1; inode <= highest; inode++ {
		gens := p.Gens(inode)
		fmt.Fprintf(&b, "inode %d: %d", inode, gens)
		for gen := -1; gen <= gens; gen++ {
			if lines, places := p.Lines(inode, gen); len(lines)+len(places) > 0 {
				fmt.Fprintf(&b, ", generation %d: %q %v", gen, lines, places)
			}
		}
		b.WriteByte('\n')
	}
	return b.String()
}

// standing is all that Stood says yes to, of an inode's generation, at each place about the bytes and of each of some lines.
func standing(p seer, inode, gen, size int, lines []string) string {
	var b strings.Builder
	for off := -2; off <= size+2; off++ {
		for _, line := range lines {
			if p.Stood(inode, gen, off, line) {
				fmt.Fprintf(&b, "%d %q ", off, line)
			}
		}
	}
	return b.String()
}

// pieces is every piece of a text, each once, the empty one too, and a few texts that are none.
func pieces(text string) []string {
	list := []string{"", "?", "\n\n\n\n"}
	for i := range len(text) + 1 {
		for k := i; k <= len(text); k++ {
			list = append(list, text[i:k])
		}
	}
	slices.Sort(list)
	return slices.Compact(list)
}

// stateOf is all that a disk tells, with what only later calls do: what lasts, the next inode's number, the serials of names without a file.
func stateOf(d *simfs.Disk, names ...string) string {
	crashed, grown := d.Copy(), d.Copy()
	crashed.Crash(nil)
	for _, name := range names {
		grown.Create(name)
	}
	var b strings.Builder
	for _, x := range []*simfs.Disk{d, crashed, grown} {
		for _, name := range x.Names() {
			s, _ := x.Stat(name)
			text, _ := x.Read(s.Inode, s.Gen, 0, s.Size)
			fmt.Fprintf(&b, "%q %v %q\n", name, s, text)
		}
		b.WriteString("then\n")
	}
	return b.String()
}

// chooser chooses by chance.
type chooser struct{ *rand.Rand }

// chance is one that always chooses alike.
func chance(seed int64) chooser { return chooser{rand.New(rand.NewSource(seed))} }

// fewNames is the names that chance chooses from.
func fewNames() []string { return []string{"a", "b", "log", "log.1", "\xff"} }

// name is one of few names.
func (c chooser) name() string { return fewNames()[c.Intn(len(fewNames()))] }

// text is a few bytes, or none, with many newlines.
func (c chooser) text() []byte {
	b := make([]byte, c.Intn(6))
	for i := range b {
		b[i] = "ab\n\n\x00\xff"[c.Intn(6)]
	}
	return b
}

// write does a writer's event by chance to a disk, or a crash, and tells what it was.
func (c chooser) write(d *simfs.Disk) string {
	name, other, text, kind := c.name(), c.name(), c.text(), c.Intn(20)
	switch {
	case kind < 3:
		return fmt.Sprintf("Create(%q): %v", name, d.Create(name))
	case kind < 11:
		return fmt.Sprintf("Append(%q, %q): %v", name, text, d.Append(name, text))
	case kind < 12:
		return fmt.Sprintf("Cut(%q): %v", name, d.Cut(name))
	case kind < 15:
		return fmt.Sprintf("Rename(%q, %q): %v", name, other, d.Rename(name, other))
	case kind < 16:
		return fmt.Sprintf("Remove(%q): %v", name, d.Remove(name))
	case kind < 18:
		return fmt.Sprintf("Sync(%q): %v", name, d.Sync(name))
	}
	keep := []int{c.Intn(5) - 1, c.Intn(5) - 1, c.Intn(5) - 1}
	d.Crash(keep)
	return fmt.Sprintf("Crash(%v)", keep)
}
