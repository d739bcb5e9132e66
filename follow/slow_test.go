package follow_test

import (
	"fmt"
	"math/rand"
	"strings"

	"heron/api"
	"heron/follow"
	"heron/simfs"
)

// What the tests hold the package against: the chapter's words in another way, slow and plain.

// greatest is the greatest number of a mark.
const greatest = 4611686018427387904

// slowFollower keeps the whole line under way, however long that is, and works the rest out of it.
type slowFollower struct {
	path        api.Path
	line, chunk int
	mark        api.Mark
	under       string
}

// slowName tells whether a name may be.
func slowName(name string) bool {
	return len(name) > 0 && len(name) < 33 && !strings.ContainsAny(name, "\x00\n")
}

// slowMark tells whether a mark may be: below 0 a number is greater than every other one, once its sign is a bit of it.
func slowMark(m api.Mark) bool {
	for _, n := range []int{m.Serial, m.Inode, m.Gen, m.Off, m.Loss.Missed, m.Loss.Gone, m.Loss.Cuts, m.Loss.Tails, m.Loss.Long} {
		if uint64(n) > greatest {
			return false
		}
	}
	return m.Inode == 0 && m.Gen == 0 && m.Off == 0 || m.Inode != 0 && m.Serial != 0
}

// slowNew is P17.1.
func slowNew(p api.Path, line, chunk int, m api.Mark, d *simfs.Disk) (*slowFollower, api.Errno) {
	if !slowName(p.Name) || !slowName(p.Rotated) && p.Rotated != "" {
		return nil, api.ErrName
	}
	if line <= 0 || line > 4096 || chunk <= 0 || chunk > 4096 || !slowMark(m) {
		return nil, api.ErrInval
	}
	f := &slowFollower{path: p, line: line, chunk: chunk, mark: m}
	named := m.Inode == 0
	for _, name := range d.Names() {
		s, _ := d.Stat(name)
		named = named || s.Inode == m.Inode && (name == p.Name || name == p.Rotated)
	}
	if !named {
		f.letGo()
		f.count(&f.mark.Loss.Gone, 1)
	}
	return f, api.OK
}

// count is what a loss goes up by.
func (f *slowFollower) count(loss *int, by int) {
	if sum := uint64(*loss) + uint64(by); sum < greatest {
		*loss = int(sum)
	} else {
		*loss = greatest
	}
}

// letGo is 'to let go'.
func (f *slowFollower) letGo() {
	f.mark.Inode, f.mark.Gen, f.mark.Off, f.under = 0, 0, 0, ""
}

// takeUp is 'to take up'.
func (f *slowFollower) takeUp(s api.Stat) {
	f.count(&f.mark.Loss.Missed, s.Serial-f.mark.Serial-1)
	f.mark.Serial, f.mark.Inode, f.mark.Gen, f.mark.Off, f.under = s.Serial, s.Inode, s.Gen, 0, ""
}

// Step is P17.2.
func (f *slowFollower) Step(d *simfs.Disk) (api.Line, bool) {
	there, e := d.Stat(f.path.Name)
	further := e == api.OK && there.Serial > f.mark.Serial
	if f.mark.Inode == 0 {
		if further {
			f.takeUp(there)
		}
		return api.Line{}, false
	}
	s, e := d.Inode(f.mark.Inode)
	if e != api.OK {
		f.letGo()
		f.count(&f.mark.Loss.Gone, 1)
		return api.Line{}, false
	}
	if s.Gen != f.mark.Gen {
		if s.Gen > f.mark.Gen {
			f.count(&f.mark.Loss.Cuts, s.Gen-f.mark.Gen)
		}
		f.mark.Gen, f.mark.Off, f.under = s.Gen, 0, ""
		return api.Line{}, false
	}
	if s.Size > f.mark.Off+len(f.under) {
		return f.read(d, s)
	}
	if further {
		if f.under != "" {
			f.count(&f.mark.Loss.Tails, 1)
		}
		f.letGo()
		f.takeUp(there)
	}
	return api.Line{}, false
}

// read is the fourth step, byte by byte.
func (f *slowFollower) read(d *simfs.Disk, s api.Stat) (api.Line, bool) {
	for range f.chunk {
		b, _ := d.Read(s.Inode, s.Gen, f.mark.Off+len(f.under), 1)
		if len(b) == 0 {
			break
		}
		if b[0] != '\n' {
			f.under += string(b)
			continue
		}
		told := api.Line{Mark: f.mark, Text: f.under}
		f.mark.Off += len(f.under) + 1
		f.under = ""
		if len(told.Text) <= f.line {
			return told, true
		}
		f.count(&f.mark.Loss.Long, 1)
		break
	}
	return api.Line{}, false
}

// Mark is P17.3.
func (f *slowFollower) Mark() api.Mark { return f.mark }

// Held is P17.3.
func (f *slowFollower) Held() int {
	if len(f.under) > f.line {
		return 0
	}
	return len(f.under)
}

// follower is what a follower can do, and the slow one too.
type follower interface {
	Step(d *simfs.Disk) (api.Line, bool)
	Mark() api.Mark
	Held() int
}

var _ = []follower{(*follow.Follower)(nil), (*slowFollower)(nil)}

// answer is what one Step answers, and how the follower stands behind it.
type answer struct {
	line  api.Line
	whole bool
	mark  api.Mark
	held  int
}

// stepped is the answer of a follower that does a step.
func stepped(f follower, d *simfs.Disk) answer {
	line, whole := f.Step(d)
	return answer{line, whole, f.Mark(), f.Held()}
}

// linesOf does so many steps, and is the lines that they answer.
func linesOf(f follower, d *simfs.Disk, steps int) (told []api.Line) {
	for range steps {
		if line, whole := f.Step(d); whole {
			told = append(told, line)
		}
	}
	return told
}

// stateOf is all that a disk tells, with what only later calls do: what lasts, the next inode's number.
func stateOf(d *simfs.Disk) string {
	crashed, grown := d.Copy(), d.Copy()
	crashed.Crash(nil)
	grown.Create("new")
	var b strings.Builder
	for _, x := range []*simfs.Disk{d, crashed, grown} {
		for _, name := range x.Names() {
			s, _ := x.Stat(name)
			text, _ := x.Read(s.Inode, s.Gen, 0, s.Size)
			fmt.Fprintf(&b, "%q %v %q\n", name, s, text)
		}
		b.WriteString("then\n")
	}
	return b.String()
}

// chooser chooses by chance.
type chooser struct{ *rand.Rand }

// chance is one that always chooses alike.
func chance(seed int64) chooser { return chooser{rand.New(rand.NewSource(seed))} }

// name is mostly the path's or its rotated one.
func (c chooser) name() string { return []string{"a", "a", "a", "a.1", "a.1", "b"}[c.Intn(6)] }

// text is a few bytes, or none, of lines of few bytes.
func (c chooser) text() string {
	var b strings.Builder
	for range c.Intn(12) {
		b.WriteByte("xyz\x00\xff\n\n"[c.Intn(7)])
	}
	return b.String()
}

// write does a writer's event by chance to a disk, or a crash, and tells what it was.
func (c chooser) write(d *simfs.Disk) string {
	name, other, text, kind := c.name(), c.name(), c.text(), c.Intn(30)
	switch {
	case kind < 6:
		return fmt.Sprintf("Create(%q): %v", name, d.Create(name))
	case kind < 16:
		return fmt.Sprintf("Append(%q, %q): %v", name, text, d.Append(name, []byte(text)))
	case kind < 18:
		return fmt.Sprintf("Cut(%q): %v", name, d.Cut(name))
	case kind < 22:
		return fmt.Sprintf("Rename(%q, %q): %v", name, other, d.Rename(name, other))
	case kind < 25:
		return fmt.Sprintf("Rename(\"a\", \"a.1\"), Create(\"a\"): %v, %v", d.Rename("a", "a.1"), d.Create("a"))
	case kind < 26:
		return fmt.Sprintf("Remove(%q): %v", name, d.Remove(name))
	case kind < 28:
		return fmt.Sprintf("Sync(%q): %v", name, d.Sync(name))
	}
	keep := []int{c.Intn(9) - 1, c.Intn(9) - 1, c.Intn(9) - 1}
	d.Crash(keep)
	return fmt.Sprintf("Crash(%v)", keep)
}

// mark is one that may be, by chance: of an inode that a disk has, or of none, or of any.
func (c chooser) mark(d *simfs.Disk) api.Mark {
	m := api.Mark{Serial: c.Intn(4)}
	for _, loss := range []*int{&m.Loss.Missed, &m.Loss.Gone, &m.Loss.Cuts, &m.Loss.Tails, &m.Loss.Long} {
		*loss = []int{0, 0, 1, 9, greatest - 2, greatest - 1, greatest}[c.Intn(7)]
	}
	s, _ := d.Stat(c.name())
	if c.Intn(10) == 0 {
		s.Inode = c.Intn(9)
	}
	if s.Inode == 0 || c.Intn(5) == 0 {
		return m
	}
	m.Inode, m.Gen, m.Off = s.Inode, max(s.Gen+[]int{0, 0, 0, 0, -1, 1, greatest - 9}[c.Intn(7)], 0), c.Intn(s.Size+3)
	m.Serial = max(s.Serial+[]int{0, 0, 0, -1, -2, 1}[c.Intn(6)], 1)
	return m
}
