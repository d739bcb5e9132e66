package past_test

import (
	"fmt"
	"math"
	"slices"
	"strings"
	"testing"

	"heron/api"
	"heron/past"
	"heron/simfs"
)

// tester is a disk and a past of it; a writer's event that is refused ends the test.
type tester struct {
	*testing.T
	d *simfs.Disk
	p *past.Past
}

// fresh is a new disk and a new past.
func fresh(t *testing.T) tester {
	t.Helper()
	p := past.New()
	if p == nil {
		t.Fatal("no past")
	}
	return tester{t, simfs.New(), p}
}

// is asks that the disk has done what it was told.
func (x tester) is(what string, e api.Errno) {
	x.Helper()
	if e != api.OK {
		x.Fatalf("%s: %v", what, e)
	}
}

func (x tester) create(name string) { x.Helper(); x.is("Create "+name, x.d.Create(name)) }

func (x tester) lay(name, s string) { x.Helper(); x.is("Append "+name, x.d.Append(name, []byte(s))) }

func (x tester) cut(name string) { x.Helper(); x.is("Cut "+name, x.d.Cut(name)) }

func (x tester) rename(old, other string) { x.Helper(); x.is("Rename "+old, x.d.Rename(old, other)) }

func (x tester) remove(name string) { x.Helper(); x.is("Remove "+name, x.d.Remove(name)) }

func (x tester) sync(name string) { x.Helper(); x.is("Sync "+name, x.d.Sync(name)) }

func (x tester) see() { x.p.See(x.d) }

// lines asks for the whole lines of a generation; each is told with its place ahead of it ("3:xy"), and Stood must say the same.
func (x tester) lines(inode, gen int, want ...string) {
	x.Helper()
	lines, places := x.p.Lines(inode, gen)
	if len(lines) != len(places) {
		x.Fatalf("Lines(%d, %d): %d lines, %d places", inode, gen, len(lines), len(places))
	}
	var got []string
	for i := range lines {
		got = append(got, fmt.Sprint(places[i], ":", lines[i]))
		x.stood(inode, gen, places[i], lines[i])
	}
	if !slices.Equal(got, want) {
		x.Fatalf("Lines(%d, %d) = %.99q, want %.99q", inode, gen, got, want)
	}
}

// stood asks that a line stood there.
func (x tester) stood(inode, gen, off int, line string) {
	x.Helper()
	if !x.p.Stood(inode, gen, off, line) {
		x.Fatalf("Stood(%d, %d, %d, %.99q) = false", inode, gen, off, line)
	}
}

// never asks that none of some lines stood there.
func (x tester) never(inode, gen, off int, lines ...string) {
	x.Helper()
	for _, line := range lines {
		if x.p.Stood(inode, gen, off, line) {
			x.Fatalf("Stood(%d, %d, %d, %.99q) = true", inode, gen, off, line)
		}
	}
}

// arrivals asks which inodes a name has had.
func (x tester) arrivals(name string, want ...int) {
	x.Helper()
	if got := x.p.Arrivals(name); !slices.Equal(got, want) {
		x.Fatalf("Arrivals(%q) = %v, want %v", name, got, want)
	}
}

// gens asks how many generations an inode has had.
func (x tester) gens(inode, want int) {
	x.Helper()
	if got := x.p.Gens(inode); got != want {
		x.Fatalf("Gens(%d) = %d, want %d", inode, got, want)
	}
}

// nothing asks that a past was shown nothing of an inode's generation.
func (x tester) nothing(inode, gen int) {
	x.Helper()
	x.lines(inode, gen)
	for _, off := range []int{math.MinInt, -1, 0, 1, math.MaxInt} {
		x.never(inode, gen, off, "", "a", "\n")
	}
}

// P15.1 to P15.4: the chapter's examples 1 to 4, of one file.
func TestExamples(t *testing.T) {
	x := fresh(t)
	x.create("a")
	x.lines(1, 0)
	x.arrivals("a")
	x.never(1, 0, 0, "")
	x.lay("a", "x")
	x.see()
	x.lines(1, 0)
	x.arrivals("a", 1)
	x.lay("a", "y\n\nz")
	x.see()
	x.lines(1, 0, "0:xy", "3:")
	x.stood(1, 0, 0, "xy")
	x.stood(1, 0, 3, "")
	x.never(1, 0, 1, "y")
	x.never(1, 0, 4, "z")
	x.never(1, 0, 0, "xy\n")
	x.never(1, 0, 2, "")

	x.cut("a")
	x.lay("a", "q\n")
	x.see()
	x.lines(1, 0, "0:xy", "3:")
	x.lines(1, 1, "0:q")
	x.gens(1, 2)
	x.gens(2, 0)
	x.gens(-1, 0)

	x.rename("a", "b")
	x.create("a")
	x.see()
	x.arrivals("a", 1, 2)
	x.arrivals("b", 1)
	x.remove("a")
	x.see()
	x.arrivals("a", 1, 2)
	x.arrivals("b", 1)
	x.rename("b", "a")
	x.see()
	x.arrivals("a", 1, 2, 1)

	x.lay("a", "r\n")
	x.cut("a")
	x.see()
	x.lines(1, 1, "0:q")
	x.lines(1, 2)
	x.gens(1, 3)
}

// P15.1 to P15.3: the chapter's example 5: what a crash has shortened.
func TestExampleCrash(t *testing.T) {
	x := fresh(t)
	x.create("a")
	x.lay("a", "ab")
	x.sync("a")
	x.lay("a", "c\nefg\n")
	x.see()
	x.d.Crash([]int{1})
	x.see()
	x.lines(1, 0, "0:abc", "4:efg")
	x.lines(1, 1)
	x.gens(1, 2)
	x.lay("a", "d\n")
	x.see()
	x.lines(1, 0, "0:abc", "4:efg")
	x.lines(1, 1, "0:abcd")
	x.never(1, 1, 0, "abc")
	x.never(1, 0, 0, "abcd")
}

// P15.1 to P15.4: a past that was shown nothing, or a disk without a file, knows nothing, whatever it is asked.
func TestNothingShown(t *testing.T) {
	x := fresh(t)
	for range 2 {
		for _, inode := range []int{math.MinInt, -1, 0, 1, 2, math.MaxInt} {
			for _, gen := range []int{math.MinInt, -1, 0, 1, math.MaxInt} {
				x.nothing(inode, gen)
			}
			x.gens(inode, 0)
		}
		for _, name := range []string{"", "a", "\n", "\x00", strings.Repeat("x", 33)} {
			x.arrivals(name)
		}
		x.see()
	}
}

// P15.1: what is shown is what there is at that moment, and two pasts have nothing in common.
func TestShown(t *testing.T) {
	x, other := fresh(t), fresh(t)
	x.create("a")
	x.lay("a", "one\n")
	x.nothing(1, 0)
	x.see()
	x.lines(1, 0, "0:one")
	x.lay("a", "two\n")
	x.create("b")
	x.lay("b", "three\n")
	x.lines(1, 0, "0:one")
	x.nothing(2, 0)
	x.arrivals("b")
	x.gens(2, 0)
	x.see()
	x.lines(1, 0, "0:one", "4:two")
	x.lines(2, 0, "0:three")
	x.arrivals("b", 2)
	other.nothing(1, 0)
	other.arrivals("a")
	other.gens(1, 0)
}

// P15.1, P15.4: a file without a byte is shown too.
func TestEmptyFile(t *testing.T) {
	x := fresh(t)
	x.create("a")
	x.see()
	x.arrivals("a", 1)
	x.gens(1, 1)
	x.nothing(1, 0)
	x.lay("a", "x")
	x.cut("a")
	x.see()
	x.gens(1, 2)
	x.nothing(1, 0)
	x.nothing(1, 1)
}

// P15.2: what stands at a place is just one line; places that are none's; texts with a newline.
func TestStood(t *testing.T) {
	x := fresh(t)
	x.create("a")
	x.lay("a", "ab\n\n\ncd\r\n\x00\xff\nab\nab") // places 0, 3, 4, 5, 9, 12; behind 15 no whole line
	x.see()
	x.lines(1, 0, "0:ab", "3:", "4:", "5:cd\r", "9:\x00\xff", "12:ab")
	x.never(1, 0, 0, "", "a", "abc", "ab\n", "ab\n\n", "ab\n\n\n", "ab\n\n\ncd\r", "cd\r", "AB", "a\x00")
	x.never(1, 0, 1, "", "b")
	x.never(1, 0, 2, "", "\n")
	x.never(1, 0, 3, "\n", "\n\n", "\ncd\r", "ab")
	x.never(1, 0, 4, "\n", "\ncd\r", "cd\r")
	x.never(1, 0, 5, "cd", "cd\r\n", "", "cd\r\n\x00\xff")
	x.never(1, 0, 6, "d\r")
	x.never(1, 0, 7, "\r")
	x.never(1, 0, 8, "")
	x.never(1, 0, 12, "ab\nab", "ab\na")
	x.never(1, 0, 15, "ab", "a", "")
	x.never(1, 0, 16, "b", "")
	for _, off := range []int{17, 18, 1 << 32, math.MaxInt - 2, math.MaxInt, -1, -3, -17, math.MinInt} {
		x.never(1, 0, off, "", "ab", "b", "\n", "ab\n", "cd\r")
	}
	x.never(1, 0, 0, strings.Repeat("ab", 1000))
	for _, g := range []int{-1, 1, math.MinInt, math.MaxInt} {
		x.nothing(1, g)
	}
	for _, n := range []int{-1, 0, 2, math.MinInt, math.MaxInt} {
		x.nothing(n, 0)
	}
}

// P15.2, P15.3: at the end of the bytes a line begins, but none stands.
func TestEnd(t *testing.T) {
	x := fresh(t)
	x.create("a")
	x.lay("a", "\n")
	x.see()
	x.lines(1, 0, "0:")
	x.never(1, 0, 1, "", "\n")
	x.never(1, 0, 0, "\n")
	x.lay("a", "\n")
	x.see()
	x.lines(1, 0, "0:", "1:")
	x.never(1, 0, 2, "")
	x.never(1, 0, 0, "\n")
}

// P15.2, P15.3: a line that comes in pieces is whole at its newline, and not ahead of that.
func TestPieces(t *testing.T) {
	x := fresh(t)
	x.create("a")
	const all = "one\n\nthree\nfour"
	lines, newlines := []string{"0:one", "4:", "5:three"}, []int{3, 4, 10}
	var want []string
	for i := range len(all) {
		x.lay("a", all[i:i+1])
		x.see()
		if slices.Contains(newlines, i) {
			want = lines[:len(want)+1]
		}
		x.lines(1, 0, want...)
		x.never(1, 0, 0, "o", "on", "one\n")
		x.never(1, 0, 5, "t", "thre")
		x.never(1, 0, 11, "four", "f")
	}
}

// P15.3: lines of every length about the greatest of a config, and the longest that a file may have.
func TestLongLines(t *testing.T) {
	x := fresh(t)
	x.create("a")
	var want []string
	place := 0
	for _, size := range []int{0, 1, 4095, 4096, 4097, 70000} {
		line := strings.Repeat("y", size)
		x.lay("a", line+"\n")
		want = append(want, fmt.Sprint(place, ":", line))
		place += size + 1
	}
	x.see()
	x.lines(1, 0, want...)
	x.create("b")
	long := strings.Repeat("z", api.MaxFile-1)
	x.lay("b", long)
	x.see()
	x.lines(2, 0)
	x.never(2, 0, 0, long)
	x.lay("b", "\n")
	x.see()
	x.lines(2, 0, "0:"+long)
	x.never(2, 0, 0, long[1:])
}

// P15.3, P15.4: several files at once; an inode is shown by whatever name it has, and grows on behind a Rename.
func TestSeveralFiles(t *testing.T) {
	x := fresh(t)
	for _, name := range []string{"b", "a", "c"} {
		x.create(name)
		x.lay(name, "file "+name+"\n")
	}
	x.see()
	x.lines(1, 0, "0:file b")
	x.lines(2, 0, "0:file a")
	x.lines(3, 0, "0:file c")
	x.arrivals("a", 2)
	x.arrivals("b", 1)
	x.arrivals("c", 3)
	x.rename("b", "d")
	x.lay("d", "more\n")
	x.see()
	x.lines(1, 0, "0:file b", "7:more")
	x.arrivals("b", 1)
	x.arrivals("d", 1)
	x.rename("a", "c") // inode 3 is gone
	x.lay("c", "over c\n")
	x.see()
	x.lines(2, 0, "0:file a", "7:over c")
	x.lines(3, 0, "0:file c")
	x.arrivals("c", 3, 2)
	x.arrivals("a", 2)
	for inode := 1; inode <= 3; inode++ {
		x.gens(inode, 1)
	}
}

// P15.1, P15.5: what a Cut, a Remove, a Rename and a crash take from the disk stays in the past.
func TestTakenAway(t *testing.T) {
	x := fresh(t)
	x.create("a")
	x.lay("a", "one\ntwo\nth")
	x.see()
	x.cut("a")
	x.see()
	x.lines(1, 0, "0:one", "4:two")
	x.lay("a", "one\nlonger than it was ahead of the cut\n")
	x.see()
	x.lines(1, 0, "0:one", "4:two")
	x.lines(1, 1, "0:one", "4:longer than it was ahead of the cut")
	x.d.Crash([]int{6})
	x.see()
	x.lines(1, 1, "0:one", "4:longer than it was ahead of the cut")
	x.lines(1, 2, "0:one")
	x.lay("a", "st\n")
	x.see()
	x.lines(1, 2, "0:one", "4:lost")
	x.remove("a")
	x.see()
	x.create("a")
	x.lay("a", "new\n")
	x.see()
	x.lines(1, 0, "0:one", "4:two")
	x.lines(1, 1, "0:one", "4:longer than it was ahead of the cut")
	x.lines(1, 2, "0:one", "4:lost")
	x.lines(2, 0, "0:new")
	x.gens(1, 3)
	x.arrivals("a", 1, 2)
}

// P15.1, P15.4: what came and went between two Sees isn't known: generations, lines, inodes.
func TestNotShown(t *testing.T) {
	x := fresh(t)
	x.create("a")
	x.lay("a", "one\n")
	x.see()
	x.lay("a", "unseen\n")
	x.cut("a")
	x.lay("a", "nor this\n")
	x.cut("a")
	x.lay("a", "x\n")
	x.create("b")
	x.lay("b", "b\n")
	x.remove("b")
	x.see()
	x.lines(1, 0, "0:one")
	x.nothing(1, 1)
	x.lines(1, 2, "0:x")
	x.gens(1, 3)
	x.nothing(2, 0)
	x.gens(2, 0)
	x.arrivals("b")
}

// P15.4: one inode stands once for each arrival that was shown, whether it was away in a showing or not.
func TestCameBack(t *testing.T) {
	x := fresh(t)
	x.create("a")
	x.see()
	x.see()
	x.rename("a", "a")
	x.see()
	x.arrivals("a", 1)
	x.rename("a", "b")
	x.rename("b", "a")
	x.arrivals("a", 1)
	x.see()
	x.see()
	x.arrivals("a", 1, 1)
	x.arrivals("b")
	x.rename("a", "b")
	x.see()
	x.arrivals("a", 1, 1)
	x.arrivals("b", 1)
	x.rename("b", "a")
	x.see()
	x.arrivals("a", 1, 1, 1)
	x.arrivals("b", 1)
}

// P15.4: a serial that rose by more than one is one arrival; so is a first one above 1.
func TestSerialsLeftOut(t *testing.T) {
	x := fresh(t)
	for range 3 {
		x.create("a")
		x.remove("a")
	}
	x.see()
	x.arrivals("a")
	x.create("a") // serial 4
	x.see()
	x.see()
	x.arrivals("a", 4)
	for range 5 {
		x.remove("a")
		x.create("a")
	}
	x.see()
	x.see()
	x.arrivals("a", 4, 9)
	x.remove("a")
	x.create("a")
	x.see()
	x.arrivals("a", 4, 9, 10)
	for inode, want := range []int{0, 0, 0, 0, 1, 0, 0, 0, 0, 1, 1} {
		x.gens(inode, want)
	}
}

// P15.4: of a text that was never shown as a file's name there is no arrival, however like one it is.
func TestNames(t *testing.T) {
	x := fresh(t)
	long := strings.Repeat("n", api.MaxName)
	x.create("a")
	x.create("A")
	x.create("\xff")
	x.create(long)
	x.see()
	x.arrivals("a", 1)
	x.arrivals("A", 2)
	x.arrivals("\xff", 3)
	x.arrivals(long, 4)
	for _, name := range []string{"", " a", "a ", "aa", "b", "a\n", "a\x00", "\ufffd", "\xfe", long + "n", long[1:]} {
		x.arrivals(name)
	}
}

// P15.5: a copy of the disk, shown at once or later, is as the disk itself; an older one takes nothing away and adds nothing.
func TestCopies(t *testing.T) {
	x := fresh(t)
	var copies []*simfs.Disk
	show := func() {
		x.see()
		copies = append(copies, x.d.Copy())
	}
	x.create("a")
	x.lay("a", "one\ntw")
	show()
	x.lay("a", "o\n")
	show()
	x.d.Crash([]int{5})
	show()
	x.rename("a", "b")
	x.create("a")
	show()
	x.cut("b")
	x.rename("b", "a")
	show()
	want := told(x.p, 3, "a", "b")
	later := past.New()
	for _, d := range copies {
		later.See(d)
	}
	if got := told(later, 3, "a", "b"); got != want {
		t.Fatalf("by copies: %s, want %s", got, want)
	}
	for _, d := range copies {
		x.p.See(d)
		if got := told(x.p, 3, "a", "b"); got != want {
			t.Fatalf("behind an older copy: %s, want %s", got, want)
		}
	}
}

// P15.1: See changes nothing of the disk, not even what only a crash or a further file would tell.
func TestSeeChangesNothing(t *testing.T) {
	x := fresh(t)
	x.create("a")
	x.lay("a", "one\n")
	x.sync("a")
	x.lay("a", "two\nth")
	x.create("b")
	x.lay("b", "not synced\n")
	x.create("c")
	x.remove("c")
	ahead := stateOf(x.d, "a", "b", "c", "new")
	for range 3 {
		x.see()
		if behind := stateOf(x.d, "a", "b", "c", "new"); behind != ahead {
			t.Fatalf("%s, and ahead of it %s", behind, ahead)
		}
	}
}

// spoil writes over a list with its spare room, and appends to it.
func spoil[T any](list []T, with T) {
	all := list[:cap(list)]
	for i := range all {
		all[i] = with
	}
	_ = append(list, with)
}

// P15.6, W3: what is answered may be written over and appended to, ahead of further showings and behind them.
func TestNewMemory(t *testing.T) {
	x := fresh(t)
	x.create("a")
	var want []string
	var inodes []int
	for i := range 40 {
		x.lay("a", "x\n")
		x.rename("a", "b")
		x.rename("b", "a")
		want, inodes = append(want, fmt.Sprint(2*i, ":x")), append(inodes, 1)
		lines, places := x.p.Lines(1, 0)
		again, placesAgain := x.p.Lines(1, 0)
		arrivals, arrivalsAgain := x.p.Arrivals("a"), x.p.Arrivals("a")
		spoil(lines, "?")
		spoil(places, -9)
		spoil(arrivals, -9)
		if slices.Contains(again, "?") || slices.Contains(placesAgain, -9) || slices.Contains(arrivalsAgain, -9) {
			t.Fatalf("another answer has changed: %q %v %v", again, placesAgain, arrivalsAgain)
		}
		x.see()
		spoil(arrivalsAgain, -9)
		spoil(again, "?")
		x.lines(1, 0, want...)
		x.arrivals("a", inodes...)
	}
}

// P15.6: what was answered stays as it was behind further showings.
func TestAnswersStay(t *testing.T) {
	x := fresh(t)
	x.create("a")
	x.lay("a", "one\ntwo\n")
	x.see()
	lines, places := x.p.Lines(1, 0)
	arrivals := x.p.Arrivals("a")
	x.lay("a", "three\n")
	x.rename("a", "b")
	x.create("a")
	x.see()
	x.cut("b")
	x.see()
	if !slices.Equal(lines, []string{"one", "two"}) || !slices.Equal(places, []int{0, 4}) || !slices.Equal(arrivals, []int{1}) {
		t.Fatalf("%q %v %v", lines, places, arrivals)
	}
}
