package follow_test

import (
	"math"
	"slices"
	"strings"
	"testing"

	"heron/api"
	"heron/follow"
	"heron/simfs"
)

// tester is a follower and a disk, which are asked at each step how they stand.
type tester struct {
	*testing.T
	d *simfs.Disk
	f *follow.Follower
}

// usual is the path of the chapter's examples.
var usual = api.Path{Name: "a", Rotated: "a.1"}

// fresh is a new follower of the usual path, on a new disk.
func fresh(t *testing.T, line, chunk int) *tester {
	t.Helper()
	x := &tester{T: t, d: simfs.New()}
	x.anew(line, chunk, api.Mark{})
	x.stands(api.Mark{}, 0)
	return x
}

// anew is another follower of the usual path, with a mark.
func (x *tester) anew(line, chunk int, m api.Mark) {
	x.Helper()
	x.of(usual, line, chunk, m)
}

// of is another follower, with a mark; making it changes nothing of the disk.
func (x *tester) of(p api.Path, line, chunk int, m api.Mark) {
	x.Helper()
	ahead := stateOf(x.d)
	f, e := follow.New(p, line, chunk, m, x.d)
	if e != api.OK || f == nil {
		x.Fatalf("New(%q, %d, %d, %v): %v, %v", p, line, chunk, m, f, e)
	}
	if behind := stateOf(x.d); behind != ahead {
		x.Fatalf("New has changed the disk: %s of %s", behind, ahead)
	}
	x.f = f
}

// writes does what is told to files: 'create a', 'append a xyz', 'cut a', 'rename a b', 'remove a', 'sync a', 'crash'. A backslash stands for a newline.
func (x *tester) writes(events ...string) {
	x.Helper()
	for _, event := range events {
		kind, rest, _ := strings.Cut(event, " ")
		name, other, _ := strings.Cut(rest, " ")
		e := api.OK
		switch kind {
		case "create":
			e = x.d.Create(name)
		case "append":
			e = x.d.Append(name, []byte(strings.ReplaceAll(other, "\\", "\n")))
		case "cut":
			e = x.d.Cut(name)
		case "rename":
			e = x.d.Rename(name, other)
		case "remove":
			e = x.d.Remove(name)
		case "sync":
			e = x.d.Sync(name)
		case "crash":
			x.d.Crash(nil)
		default:
			x.Fatalf("no event %q", event)
		}
		if e != api.OK {
			x.Fatalf("%s: %v", event, e)
		}
	}
}

// stands asks for Mark and Held, twice: asking changes nothing.
func (x *tester) stands(m api.Mark, held int) {
	x.Helper()
	for range 2 {
		if got, n := x.f.Mark(), x.f.Held(); got != m || n != held {
			x.Fatalf("Mark %v, Held %d, want %v, %d", got, n, m, held)
		}
	}
}

// step does a step without a line, behind which the follower stands so.
func (x *tester) step(m api.Mark, held int) {
	x.Helper()
	if line, whole := x.f.Step(x.d); whole || line != (api.Line{}) {
		x.Fatalf("Step: %v, %v, want no line", line, whole)
	}
	x.stands(m, held)
}

// rests does a few steps that do nothing.
func (x *tester) rests() {
	x.Helper()
	for range 3 {
		x.step(x.f.Mark(), x.f.Held())
	}
}

// line does a step that answers a line, with the mark that stood ahead of it; then the start is off.
func (x *tester) line(text string, off int) {
	x.Helper()
	ahead := x.f.Mark()
	line, whole := x.f.Step(x.d)
	if want := (api.Line{Mark: ahead, Text: text}); !whole || line != want {
		x.Fatalf("Step: %.99v, %v, want %.99v", line, whole, want)
	}
	ahead.Off = off
	x.stands(ahead, 0)
}

// at is a mark without losses.
func at(serial, inode, gen, off int) api.Mark {
	return api.Mark{Serial: serial, Inode: inode, Gen: gen, Off: off}
}

// heldOf is how many bytes are held of so many of a line.
func heldOf(n, line int) int {
	if n > line {
		return 0
	}
	return n
}

// with is a mark with losses.
func with(m api.Mark, loss api.Loss) api.Mark {
	m.Loss = loss
	return m
}

// P17.1 to P17.3: the chapter's examples 1 and 2: ordinary reading, and a rotation.
func TestExamples(t *testing.T) {
	x := fresh(t, 5, 4)
	x.step(api.Mark{}, 0)
	x.writes("create a")
	x.step(at(1, 1, 0, 0), 0)
	x.writes(`append a ab\cdefg\x`)
	x.line("ab", 3)
	x.step(at(1, 1, 0, 3), 4)
	x.line("cdefg", 9)
	x.step(at(1, 1, 0, 9), 1)
	x.rests()

	x.writes("rename a a.1", "create a", `append a.1 y\`)
	x.line("xy", 12)
	x.step(at(2, 2, 0, 0), 0)
}

// P17.2: the chapter's examples 3 and 4: a line that is too long, cuts, a removal, an arrival that was missed.
func TestExamplesOfLosses(t *testing.T) {
	x := fresh(t, 5, 4)
	x.writes("create a", `append a abcdef\`)
	x.step(at(1, 1, 0, 0), 0)
	x.step(at(1, 1, 0, 0), 4)
	x.step(with(at(1, 1, 0, 7), api.Loss{Long: 1}), 0)
	x.writes("append a abcdefgh")
	x.step(with(at(1, 1, 0, 7), api.Loss{Long: 1}), 4)
	x.step(with(at(1, 1, 0, 7), api.Loss{Long: 1}), 0)

	x = fresh(t, 5, 4)
	x.writes("create a")
	x.step(at(1, 1, 0, 0), 0)
	x.writes("append a p", "cut a", "append a p", "cut a", `append a q\`)
	x.step(with(at(1, 1, 2, 0), api.Loss{Cuts: 2}), 0)
	x.line("q", 2)
	x.writes("remove a")
	x.step(with(at(1, 0, 0, 0), api.Loss{Cuts: 2, Gone: 1}), 0)
	x.writes("create a", "remove a", "create a")
	x.step(with(at(3, 3, 0, 0), api.Loss{Cuts: 2, Gone: 1, Missed: 1}), 0)
}

// P17.1, P17.2: the chapter's examples 5 and 6: followers that are made with a mark.
func TestExamplesOfMarks(t *testing.T) {
	x := fresh(t, 5, 4)
	x.writes("create a", `append a ab\cdefg`)
	x.anew(5, 4, at(1, 1, 0, 3))
	x.step(at(1, 1, 0, 3), 4)
	x.writes("rename a a.1")
	x.anew(5, 4, at(1, 1, 0, 3))
	x.step(at(1, 1, 0, 3), 4)
	x.writes("rename a.1 b")
	x.anew(5, 4, at(1, 1, 0, 3))
	x.stands(with(at(1, 0, 0, 0), api.Loss{Gone: 1}), 0)
	x.writes("remove b")
	x.anew(5, 4, at(1, 1, 0, 3))
	x.stands(with(at(1, 0, 0, 0), api.Loss{Gone: 1}), 0)

	x = fresh(t, 5, 4)
	x.writes("create a", `append a 12345678\`)
	x.anew(5, 4, at(1, 1, 0, 99))
	x.rests()
	x.writes("append a " + strings.Repeat("x", 95))
	x.step(at(1, 1, 0, 99), 4)
	x.step(at(1, 1, 0, 99), 5)
	x.rests()
	x.writes("cut a", "append a p", "cut a")
	x.anew(5, 4, at(1, 1, 7, 3))
	x.step(at(1, 1, 2, 0), 0)
}

// badNames is texts that no file may have as its name, but for the empty one.
func badNames() []string {
	return []string{"\n", "\x00", "a\n", "\na", "a\x00b", strings.Repeat("x", 33), strings.Repeat("x", 32) + "\n", strings.Repeat("x", 4096)}
}

// goodNames is names of each edge.
func goodNames() []string {
	return []string{"a", " ", "\xff", "\r", "a.1", "/", "..", strings.Repeat("x", 32), "é"}
}

// refused asks that New refuses, on a disk without a file and on one with the usual ones, and changes nothing of them.
func refused(t *testing.T, p api.Path, line, chunk int, m api.Mark, want api.Errno) {
	t.Helper()
	empty, full := simfs.New(), simfs.New()
	full.Create("a")
	full.Create("a.1")
	for _, d := range []*simfs.Disk{empty, full} {
		ahead := stateOf(d)
		if f, e := follow.New(p, line, chunk, m, d); f != nil || e != want {
			t.Errorf("New(%.99q, %d, %d, %v): %v, %v, want %v", p, line, chunk, m, f, e, want)
		}
		if behind := stateOf(d); behind != ahead {
			t.Fatalf("New has changed the disk: %s of %s", behind, ahead)
		}
	}
}

// P17.1: names that may not be, the path's and the rotated one; also where more is wrong.
func TestNames(t *testing.T) {
	x := fresh(t, 5, 4)
	for _, bad := range append(badNames(), "") {
		for _, rotated := range append(append(badNames(), ""), goodNames()...) {
			refused(t, api.Path{Name: bad, Rotated: rotated}, 5, 4, api.Mark{}, api.ErrName)
			refused(t, api.Path{Name: bad, Rotated: rotated}, 0, 4097, api.Mark{Off: -1}, api.ErrName)
		}
	}
	for _, good := range goodNames() {
		for _, bad := range badNames() {
			refused(t, api.Path{Name: good, Rotated: bad}, 5, 4, api.Mark{}, api.ErrName)
			refused(t, api.Path{Name: good, Rotated: bad}, -1, 4, api.Mark{}, api.ErrName)
			refused(t, api.Path{Name: good, Rotated: bad}, 5, 0, api.Mark{}, api.ErrName)
			refused(t, api.Path{Name: good, Rotated: bad}, 5, 4, api.Mark{Gen: 1}, api.ErrName)
		}
		for _, rotated := range append(goodNames(), "") { // its own name too
			x.of(api.Path{Name: good, Rotated: rotated}, 5, 4, api.Mark{})
			x.stands(api.Mark{}, 0)
		}
	}
}

// P17.1: the longest line and the bytes of a read that may be and that may not.
func TestLineAndChunk(t *testing.T) {
	x := fresh(t, 5, 4)
	bad := []int{0, -1, -2, math.MinInt32, math.MinInt, 4097, 4098, 1 << 16, math.MaxInt32, math.MaxInt}
	good := []int{1, 2, 5, 4095, 4096}
	for _, n := range bad {
		for _, other := range append(slices.Clone(bad), good...) {
			refused(t, usual, n, other, api.Mark{}, api.ErrInval)
			refused(t, usual, other, n, api.Mark{}, api.ErrInval)
		}
	}
	for _, line := range good {
		for _, chunk := range good {
			x.anew(line, chunk, api.Mark{})
			x.stands(api.Mark{}, 0)
			refused(t, usual, line, chunk, api.Mark{Off: 1}, api.ErrInval)
		}
	}
}

// numbers is the numbers of a mark.
func numbers(m *api.Mark) []*int {
	return []*int{&m.Serial, &m.Inode, &m.Gen, &m.Off, &m.Loss.Missed, &m.Loss.Gone, &m.Loss.Cuts, &m.Loss.Tails, &m.Loss.Long}
}

// P17.1: marks that may be and that may not: each number below 0, and about 2^62; a serial for an inode, an inode for a generation and a place.
func TestMarks(t *testing.T) {
	for k := range numbers(&api.Mark{}) {
		for _, n := range []int{-1, -2, -greatest, math.MinInt32, math.MinInt, greatest + 1, greatest + 2, math.MaxInt} {
			for _, m := range []api.Mark{{}, {Serial: 1}, {Serial: 1, Inode: 1}, {Serial: 2, Inode: 3, Gen: 4, Off: 5, Loss: api.Loss{Missed: 6, Gone: 7, Cuts: 8, Tails: 9, Long: 10}}} {
				*numbers(&m)[k] = n
				refused(t, usual, 5, 4, m, api.ErrInval)
			}
		}
	}
	for _, n := range []int{1, 2, 7, 1 << 32, greatest - 1, greatest} {
		refused(t, usual, 5, 4, at(0, n, 0, 0), api.ErrInval)
		refused(t, usual, 5, 4, at(0, n, n, n), api.ErrInval)
		for _, serial := range []int{0, 1, greatest} {
			refused(t, usual, 5, 4, at(serial, 0, n, 0), api.ErrInval)
			refused(t, usual, 5, 4, at(serial, 0, 0, n), api.ErrInval)
			refused(t, usual, 5, 4, at(serial, 0, n, n), api.ErrInval)
		}

		x := fresh(t, 5, 4)
		x.writes("create a")
		for k := range numbers(&api.Mark{}) {
			m := at(1, 1, 0, 0)
			if *numbers(&m)[k] = n; m.Inode == 1 { // another inode is none
				x.anew(5, 4, m)
				x.stands(m, 0)
			}
		}
		all := with(at(n, 1, n, n), api.Loss{Missed: n, Gone: n, Cuts: n, Tails: n, Long: n})
		x.anew(5, 4, all)
		x.stands(all, 0)
		none := with(at(n, 0, 0, 0), all.Loss)
		x.anew(5, 4, none)
		x.stands(none, 0)
		x.anew(5, 4, with(api.Mark{}, all.Loss))
		x.stands(with(api.Mark{}, all.Loss), 0)
	}
}

// P17.1: a mark's inode that is the path's, the rotated name's, another's, gone, or never was.
func TestNewInode(t *testing.T) {
	x := fresh(t, 5, 4)
	x.writes("create x", "create a", "create a.1", "create b", "remove x", "append a 123456789", "append a.1 123456789", "append b 123456789")
	loss := api.Loss{Missed: 1, Gone: 2, Cuts: 3, Tails: 4, Long: 5}
	more := loss
	more.Gone = 3
	for _, p := range []api.Path{usual, {Name: "a", Rotated: ""}, {Name: "a.1", Rotated: "a"}, {Name: "b", Rotated: "b"}, {Name: "n", Rotated: "b"}, {Name: "n", Rotated: "n.1"}, {Name: "x", Rotated: ""}} {
		for i, name := range []string{"", "a", "a.1", "b", "", ""} { // of the inodes 1 to 6
			m := with(at(7, i+1, 5, 3), loss)
			x.of(p, 5, 4, m)
			if name != "" && (name == p.Name || name == p.Rotated) {
				x.stands(m, 0)
				continue
			}
			x.stands(with(at(7, 0, 0, 0), more), 0)
		}
		x.of(p, 5, 4, with(at(7, 0, 0, 0), loss))
		x.stands(with(at(7, 0, 0, 0), loss), 0)
	}

	// Gone ends at its greatest number.
	for _, gone := range []int{greatest - 1, greatest} {
		x.anew(5, 4, with(at(1, 99, 0, 0), api.Loss{Gone: gone}))
		x.stands(with(at(1, 0, 0, 0), api.Loss{Gone: greatest}), 0)
	}
}

// P17.2, the first step: with none held nothing but a further arrival of the path's own name is taken up.
func TestBegin(t *testing.T) {
	x := fresh(t, 5, 4)
	x.rests()
	x.writes("create a.1", `append a.1 a\`, "create b")
	x.rests()
	x.writes("rename a.1 a", "rename b a.1")
	x.step(at(1, 1, 0, 0), 0)
	x.line("a", 2)

	// A serial that isn't above the mark's.
	x = fresh(t, 5, 4)
	x.anew(5, 4, at(3, 0, 0, 0))
	for range 3 {
		x.writes("create a", `append a a\`)
		x.rests()
		x.writes("rename a a.1")
		x.rests()
	}
	x.writes("create a")
	x.step(at(4, 4, 0, 0), 0)

	// Its generation is the one that it has by now, and what was appended ahead of that isn't read.
	x = fresh(t, 5, 4)
	x.writes("create a", "append a 1", "cut a", "append a 2", "cut a", `append a 3\`)
	x.step(at(1, 1, 2, 0), 0)
	x.line("3", 2)

	// A name that has no file any more.
	x = fresh(t, 5, 4)
	x.writes("create a", "remove a")
	x.rests()
	x.writes("create a", "rename a b")
	x.rests()
	x.writes("rename b a")
	x.step(with(at(3, 2, 0, 0), api.Loss{Missed: 2}), 0)
}

// P17.2, the first step: arrivals that lie between are counted as Missed.
func TestMissed(t *testing.T) {
	for missed := range 5 {
		for _, was := range []int{0, 7, greatest - 3, greatest - 1, greatest} {
			x := fresh(t, 5, 4)
			x.anew(5, 4, with(api.Mark{}, api.Loss{Missed: was}))
			for range missed {
				x.writes("create a", "remove a")
			}
			x.writes("create a")
			x.step(with(at(missed+1, missed+1, 0, 0), api.Loss{Missed: min(was+missed, greatest)}), 0)
			x.rests()

			// Likewise at the end of an inode, with a tail or without one.
			ahead, tails := x.f.Mark(), missed%2
			x.writes("append a " + strings.Repeat("t", 2*tails))
			if tails > 0 {
				x.step(ahead, 2)
			}
			for range missed {
				x.writes("rename a b", "rename b a")
			}
			x.writes("rename a b", "create a")
			ahead.Loss.Missed, ahead.Loss.Tails = min(ahead.Loss.Missed+missed, greatest), tails
			ahead.Serial, ahead.Inode = 2*missed+2, missed+2
			x.step(ahead, 0)
		}
	}
}

// P17.2, the second step: an inode that is gone is let go, whatever was held of it and whatever its name has by now.
func TestGone(t *testing.T) {
	for _, under := range []string{"", "xyz", "much too long"} {
		for _, goes := range [][]string{{"remove a"}, {"create n", "rename n a"}, {"rename a b", "remove b"}, {"remove a", "create a"}} {
			x := fresh(t, 5, 99)
			x.writes("create a", `append a l\`+under)
			x.step(at(1, 1, 0, 0), 0)
			x.line("l", 2)
			if under != "" {
				x.step(at(1, 1, 0, 2), heldOf(len(under), 5))
			}
			x.writes(goes...)
			x.step(with(at(1, 0, 0, 0), api.Loss{Gone: 1}), 0)
			s, e := x.d.Stat("a")
			if e != api.OK {
				x.rests()
				x.writes("create a")
				s, _ = x.d.Stat("a")
			}
			x.step(with(at(2, s.Inode, 0, 0), api.Loss{Gone: 1}), 0)
			x.writes(`append a m\`)
			x.line("m", 2) // nothing of the old line is ahead of it
		}
	}
	for _, was := range []int{greatest - 1, greatest} {
		x := fresh(t, 5, 4)
		x.writes("create a")
		x.anew(5, 4, with(at(1, 1, 0, 0), api.Loss{Gone: was}))
		x.writes("remove a")
		x.step(with(at(1, 0, 0, 0), api.Loss{Gone: greatest}), 0)
	}
}

// P17.2, the third step: another generation is begun at its first byte, by a cut or a crash, with a line under way or without, ahead of reading and of another arrival.
func TestGenerations(t *testing.T) {
	for _, under := range []string{"", "xyz", "much too long"} {
		x := fresh(t, 5, 99)
		x.writes("create a", `append a l\`+under)
		x.step(at(1, 1, 0, 0), 0)
		x.line("l", 2)
		if under != "" {
			x.step(at(1, 1, 0, 2), heldOf(len(under), 5))
		}
		x.writes("cut a", `append a longer than that was\`, "rename a a.1", "create a")
		x.step(with(at(1, 1, 1, 0), api.Loss{Cuts: 1}), 0)
		x.writes("cut a.1", `append a.1 n\`)
		x.step(with(at(1, 1, 2, 0), api.Loss{Cuts: 2}), 0)
		x.line("n", 2)
		x.writes(`append a.1 o`)
		x.step(with(at(1, 1, 2, 2), api.Loss{Cuts: 2}), 1)
		x.writes("crash")
		x.step(with(at(1, 1, 3, 0), api.Loss{Cuts: 3}), 0)
		x.step(with(at(2, 2, 0, 0), api.Loss{Cuts: 3}), 0)
	}
}

// P17.2, the third step: Cuts goes up by as many generations as there are more, and by none, if there are fewer.
func TestCuts(t *testing.T) {
	for gen := range 5 {
		for _, from := range []int{0, 1, 2, 3, 4, 5, 99, greatest} {
			for _, was := range []int{0, 7, greatest - 3, greatest - 1, greatest} {
				x := fresh(t, 5, 4)
				x.writes("create a")
				for range gen {
					x.writes("append a x", "cut a")
				}
				x.anew(5, 4, with(at(1, 1, from, 0), api.Loss{Cuts: was}))
				want := with(at(1, 1, gen, 0), api.Loss{Cuts: min(was+max(gen-from, 0), greatest)})
				x.step(want, 0)
				x.rests()
			}
		}
	}
}

// P17.2, the fourth step: each read is of chunk bytes at most, and what is taken ends at a newline: at its first byte, at its last, the first of several.
func TestReads(t *testing.T) {
	x := fresh(t, 9, 3)
	x.writes("create a")
	x.step(at(1, 1, 0, 0), 0)
	x.writes(`append a ab\\\cd`)
	x.line("ab", 3) // at the read's end
	x.line("", 4)   // at its beginning
	x.line("", 5)
	x.step(at(1, 1, 0, 5), 2)
	x.rests()
	x.writes(`append a efghi\`)
	x.step(at(1, 1, 0, 5), 5)
	x.line("cdefghi", 13)
	x.writes(`append a 1\2\3\`)
	x.line("1", 15)
	x.line("2", 17)
	x.line("3", 19)
	x.rests()
	x.writes(`append a 123456789`)
	x.step(at(1, 1, 0, 19), 3)
	x.step(at(1, 1, 0, 19), 6)
	x.step(at(1, 1, 0, 19), 9)
	x.rests()
	x.writes(`append a \`)
	x.line("123456789", 29)
}

// P17.2, the fourth step: a line of any length, read in any pieces: one of just Line bytes is answered, one of one more is counted.
func TestLineLengths(t *testing.T) {
	for _, line := range []int{1, 2, 5, 300, 4095, 4096} {
		for _, chunk := range []int{1, 2, 5, 299, 300, 301, 4095, 4096} {
			for _, size := range []int{0, 1, line - 1, line, line + 1, line + 2, 3 * line} {
				readsLine(t, line, chunk, size)
			}
		}
	}
}

// readsLine reads a line of so many bytes, and one that comes behind it.
func readsLine(t *testing.T, line, chunk, size int) {
	t.Helper()
	x := fresh(t, line, chunk)
	text := strings.Repeat("abcdefg", size/7+1)[:size]
	x.writes("create a", "append a "+text+`\z\`)
	x.step(at(1, 1, 0, 0), 0)
	for taken := chunk; taken <= size; taken += chunk {
		x.step(at(1, 1, 0, 0), heldOf(taken, line))
	}
	if size <= line {
		x.line(text, size+1)
	} else {
		x.step(with(at(1, 1, 0, size+1), api.Loss{Long: 1}), 0)
	}
	if chunk == 1 {
		x.step(x.f.Mark(), 1)
	}
	x.line("z", size+3)
	x.rests()
}

// P17.2, the fourth step: a line that is too long counts once, at its newline, and ends at the greatest number; later lines come all the same.
func TestLong(t *testing.T) {
	for _, was := range []int{0, greatest - 2, greatest - 1, greatest} {
		x := fresh(t, 5, 4)
		x.writes("create a", `append a 1234567890123\ok\123456\`)
		x.anew(5, 4, with(at(1, 1, 0, 0), api.Loss{Long: was}))
		m := with(at(1, 1, 0, 0), api.Loss{Long: was})
		x.step(m, 4)
		x.step(m, 0)
		x.step(m, 0)
		m.Off, m.Loss.Long = 14, min(was+1, greatest)
		x.step(m, 0)
		x.line("ok", 17)
		m.Off = 17
		x.step(m, 4)
		m.Off, m.Loss.Long = 24, min(was+2, greatest)
		x.step(m, 0)
		x.rests()
	}
}

// P17.2, the fourth step: bytes are read ahead of going over to another arrival, and of whatever name the inode has.
func TestReadsAheadOfGoingOver(t *testing.T) {
	x := fresh(t, 5, 4)
	x.writes("create a", `append a 1\2\`)
	x.step(at(1, 1, 0, 0), 0)
	x.writes("rename a b", "create a", `append a new\`)
	x.line("1", 2)
	x.writes("rename b a.1")
	x.line("2", 4)
	x.writes("rename a.1 c", "append c 34567", "remove a", "create a")
	x.step(at(1, 1, 0, 4), 4)
	x.step(at(1, 1, 0, 4), 5)
	x.writes(`append c \`)
	x.line("34567", 10)
	x.step(with(at(3, 3, 0, 0), api.Loss{Missed: 1}), 0)
}

// P17.2, the fifth step: Tails goes up at a line under way, held or not, and at none else; it ends at the greatest number.
func TestTails(t *testing.T) {
	for _, was := range []int{0, 7, greatest - 1, greatest} {
		for _, under := range []string{"", "x", "12345", "123456", "much too long"} {
			for _, ahead := range []string{"", `\`, `l\`} {
				x := fresh(t, 5, 99)
				x.writes("create a", "append a "+ahead+under)
				m := with(at(1, 1, 0, 0), api.Loss{Tails: was})
				x.anew(5, 99, m)
				if ahead != "" {
					x.line(strings.TrimSuffix(ahead, `\`), len(ahead))
					m.Off = len(ahead)
				}
				if under != "" {
					x.step(m, heldOf(len(under), 5))
				}
				x.rests()
				x.writes("rename a a.1")
				x.rests()
				x.writes("create a", `append a n\`)
				m.Serial, m.Inode, m.Off = 2, 2, 0
				if under != "" {
					m.Loss.Tails = min(was+1, greatest)
				}
				x.step(m, 0)
				x.line("n", 2)
				x.rests()
			}
		}
	}
}

// P17.2, the fifth step: an inode that comes back to its name is a further arrival, and is read again, in the generation that it has.
func TestComesBack(t *testing.T) {
	x := fresh(t, 5, 4)
	x.writes("create a", `append a 1\2`)
	x.step(at(1, 1, 0, 0), 0)
	x.line("1", 2)
	x.step(at(1, 1, 0, 2), 1)
	x.writes("rename a b", "rename b a")
	x.step(with(at(2, 1, 0, 0), api.Loss{Tails: 1}), 0)
	x.line("1", 2)
	x.step(with(at(2, 1, 0, 2), api.Loss{Tails: 1}), 1)
	x.writes(`append a 3\`, "rename a b", "rename b a", "rename a b", "rename b a")
	x.line("23", 5)
	x.step(with(at(4, 1, 0, 0), api.Loss{Tails: 1, Missed: 1}), 0)
	x.writes("rename a a")
	x.line("1", 2)
	x.line("23", 5)
	x.rests()
}

// P17.2, the fifth and sixth step: at the end nothing is done, while the path's name has no file, or one that was taken up, or while another name's serial is above the follower's.
func TestNothing(t *testing.T) {
	x := fresh(t, 5, 4)
	x.writes("create a", "append a x")
	x.step(at(1, 1, 0, 0), 0)
	x.step(at(1, 1, 0, 0), 1)
	x.rests()
	x.writes("create b", "rename b a.1", "create b", "rename b a.1")
	x.rests()
	x.writes("rename a b")
	x.rests()
	x.writes("create a", "remove a")
	x.rests()
	x.writes("create a")
	x.step(with(at(3, 5, 0, 0), api.Loss{Missed: 1, Tails: 1}), 0)
	x.anew(5, 4, at(9, 5, 0, 0)) // a mark whose serial is above the name's
	x.rests()
	x.writes(`append a x\`)
	x.line("x", 2)
	x.writes("rename a b", "create a")
	x.rests()
}

// P17.1, P17.2: a mark of any place: it is read on from there, also where that is no line's beginning, or behind the end.
func TestAnyPlace(t *testing.T) {
	const text = `ab\cdef\\ghi`
	for off := range len(text) + 3 {
		x := fresh(t, 99, 99)
		x.writes("create a", "append a "+text)
		x.anew(99, 99, at(1, 1, 0, off))
		rest := ""
		if off < len(text) {
			rest = text[off:]
		}
		for start := off; strings.Contains(rest, `\`); {
			line, more, _ := strings.Cut(rest, `\`)
			start, rest = start+len(line)+1, more
			x.line(line, start)
		}
		if rest != "" {
			x.step(x.f.Mark(), len(rest))
		}
		x.rests()
	}
	for _, off := range []int{1 << 20, 1<<20 + 1, 1 << 40, greatest - 1, greatest} {
		x := fresh(t, 99, 99)
		x.writes("create a", "append a "+text)
		x.anew(99, 99, at(1, 1, 0, off))
		x.rests()
		x.writes("rename a a.1", "create a")
		x.step(at(2, 2, 0, 0), 0)
	}
}

// P17.3: a mark that was answered stays as it was, and belongs to who asked for it.
func TestMarkStays(t *testing.T) {
	x := fresh(t, 5, 4)
	x.writes("create a", `append a 1\2\`)
	x.step(at(1, 1, 0, 0), 0)
	first := x.f.Mark()
	x.line("1", 2)
	second := x.f.Mark()
	second.Off, second.Loss.Cuts = 77, 77
	x.stands(at(1, 1, 0, 2), 0)
	x.line("2", 4)
	if first != at(1, 1, 0, 0) {
		t.Fatalf("the first mark is %v now", first)
	}
}
