package simfs_test

import (
	"bytes"
	"fmt"
	"math"
	"slices"
	"strings"
	"testing"

	"heron/api"
	"heron/simfs"
)

// files is what a disk can do, and the slow one too.
type files interface {
	Create(name string) api.Errno
	Append(name string, b []byte) api.Errno
	Cut(name string) api.Errno
	Rename(old, other string) api.Errno
	Remove(name string) api.Errno
	Sync(name string) api.Errno
	Stat(name string) (api.Stat, api.Errno)
	Inode(n int) (api.Stat, api.Errno)
	Read(n, gen, off, size int) ([]byte, api.Errno)
	Names() []string
	Crash(keep []int)
}

// tester asks a disk, and tells what is other than it should be.
type tester struct {
	*testing.T
	*simfs.Disk
}

// fresh is a new disk.
func fresh(t *testing.T) tester {
	t.Helper()
	d := simfs.New()
	if d == nil {
		t.Fatal("no disk")
	}
	return tester{t, d}
}

// is asks that a call has answered so.
func (d tester) is(what string, got, want api.Errno) {
	d.Helper()
	if got != want {
		d.Fatalf("%s: %v, want %v", what, got, want)
	}
}

// create makes files.
func (d tester) create(names ...string) {
	d.Helper()
	for _, name := range names {
		d.is("Create "+name, d.Create(name), api.OK)
	}
}

// lay appends a text.
func (d tester) lay(name, text string) {
	d.Helper()
	d.is("Append to "+name, d.Append(name, []byte(text)), api.OK)
}

// rename gives a file another name.
func (d tester) rename(old, other string) {
	d.Helper()
	d.is("Rename "+old+" "+other, d.Rename(old, other), api.OK)
}

// stands asks what a name and its inode tell, and all bytes.
func (d tester) stands(name string, inode, serial, gen int, text string) {
	d.Helper()
	want := api.Stat{Inode: inode, Serial: serial, Gen: gen, Size: len(text)}
	if s, e := d.Stat(name); s != want || e != api.OK {
		d.Fatalf("Stat(%q) = %v, %v, want %v", name, s, e, want)
	}
	if s, e := d.Inode(inode); s != want || e != api.OK {
		d.Fatalf("Inode(%d) = %v, %v, want %v", inode, s, e, want)
	}
	d.reads(inode, gen, 0, len(text)+1, text)
}

// none asks that there is no file of a name.
func (d tester) none(name string) {
	d.Helper()
	if s, e := d.Stat(name); s != (api.Stat{}) || e != api.ErrNone {
		d.Fatalf("Stat(%q) = %v, %v, want %v", name, s, e, api.ErrNone)
	}
}

// gone asks that an inode is gone, or never was.
func (d tester) gone(numbers ...int) {
	d.Helper()
	for _, n := range numbers {
		if s, e := d.Inode(n); s != (api.Stat{}) || e != api.ErrGone {
			d.Fatalf("Inode(%d) = %v, %v, want %v", n, s, e, api.ErrGone)
		}
		d.refuses(n, 0, 0, 1, api.ErrGone)
	}
}

// reads asks what is read.
func (d tester) reads(n, gen, off, size int, want string) {
	d.Helper()
	if b, e := d.Read(n, gen, off, size); string(b) != want || e != api.OK {
		d.Fatalf("Read(%d, %d, %d, %d) = %.99q, %v, want %.99q", n, gen, off, size, b, e, want)
	}
}

// refuses asks that nothing is read.
func (d tester) refuses(n, gen, off, size int, want api.Errno) {
	d.Helper()
	if b, e := d.Read(n, gen, off, size); len(b) != 0 || e != want {
		d.Fatalf("Read(%d, %d, %d, %d) = %.99q, %v, want %v", n, gen, off, size, b, e, want)
	}
}

// names asks which files there are.
func (d tester) names(want ...string) {
	d.Helper()
	if got := d.Names(); !slices.Equal(got, want) {
		d.Fatalf("Names() = %q, want %q", got, want)
	}
}

// state is all that a disk tells of the inodes up to a number.
func state(d *simfs.Disk, highest int) string {
	var b strings.Builder
	for n := 1; n <= highest; n++ {
		s, e := d.Inode(n)
		if e != api.OK {
			continue
		}
		name := "?"
		for _, x := range d.Names() {
			if y, _ := d.Stat(x); y == s {
				name = x
			}
		}
		text, e := d.Read(n, s.Gen, 0, math.MaxInt)
		if e != api.OK {
			fmt.Fprintf(&b, "Read of inode %d: %v\n", n, e)
		}
		fmt.Fprintf(&b, "%q %v %s\n", name, s, text)
	}
	return b.String()
}

// whole is state with all that only later calls tell: what lasts, the next inode's number, the serials of names without a file.
func whole(d *simfs.Disk, highest int, names ...string) string {
	crashed, grown := d.Copy(), d.Copy()
	crashed.Crash(nil)
	for _, name := range names {
		grown.Create(name)
	}
	return state(d, highest) + "crashed:\n" + state(crashed, highest) + "grown:\n" + state(grown, highest+len(names))
}

// slowWhole is whole, of the slow disk.
func slowWhole(d *slowDisk, names ...string) string {
	crashed, grown := d.Copy(), d.Copy()
	crashed.Crash(nil)
	for _, name := range names {
		grown.Create(name)
	}
	return d.state() + "crashed:\n" + crashed.state() + "grown:\n" + grown.state()
}

// P14.1 to P14.5, P14.8 to P14.10: the chapter's first example.
func TestExampleFiles(t *testing.T) {
	d := fresh(t)
	d.create("a")
	d.stands("a", 1, 1, 0, "")
	d.is("a file there", d.Create("a"), api.ErrThere)
	for _, name := range []string{"", strings.Repeat("x", 33), "a\n"} {
		d.is("no name", d.Create(name), api.ErrName)
	}
	d.lay("a", "xyz")
	d.stands("a", 1, 1, 0, "xyz")
	d.reads(1, 0, 1, 9, "yz")
	d.reads(1, 0, 3, 1, "")
	d.reads(1, 0, 99, 0, "")
	d.refuses(1, 0, -1, 1, api.ErrInval)
	d.refuses(9, 0, 0, -1, api.ErrInval)
	d.refuses(2, 0, 0, 1, api.ErrGone)
	d.refuses(1, 1, 0, 1, api.ErrGen)
	d.is("no file", d.Append("b", nil), api.ErrNone)

	d.is("Cut", d.Cut("a"), api.OK)
	d.stands("a", 1, 1, 1, "")
	d.is("Cut", d.Cut("a"), api.OK)
	d.stands("a", 1, 1, 1, "")
	d.lay("a", "p")
	d.reads(1, 1, 0, 9, "p")
	d.refuses(1, 0, 0, 9, api.ErrGen)

	d.create("b")
	d.rename("a", "b")
	d.stands("b", 1, 2, 1, "p")
	d.gone(2)
	d.none("a")
	d.names("b")
	d.rename("b", "b")
	d.stands("b", 1, 2, 1, "p")
	d.create("a")
	d.stands("a", 3, 2, 0, "")
	d.rename("b", "a")
	d.stands("a", 1, 3, 1, "p")
	d.is("no file", d.Rename("q", "r"), api.ErrNone)
	d.is("no name", d.Rename("", "a"), api.ErrName)
	d.is("no name", d.Rename("q", ""), api.ErrName)
	d.is("Remove", d.Remove("a"), api.OK)
	d.gone(1)
	d.is("no file", d.Remove("a"), api.ErrNone)
	d.create("a")
	d.stands("a", 4, 4, 0, "")
}

// three is the disk of the chapter's fourth example.
func three(t *testing.T) tester {
	t.Helper()
	d := fresh(t)
	d.create("a", "b", "c")
	d.lay("a", "12")
	d.is("Sync", d.Sync("a"), api.OK)
	d.lay("a", "345")
	d.lay("b", "678")
	d.lay("c", "9")
	d.is("Sync", d.Sync("c"), api.OK)
	return d
}

// P14.7, P14.12: the chapter's fourth example, and keeps of other kinds.
func TestExampleCrash(t *testing.T) {
	for _, c := range []struct {
		keep       []int
		a          string
		genA, genB int
		b          string
	}{
		{[]int{1, -3}, "123", 1, 1, ""},
		{[]int{3}, "12345", 0, 1, ""},
		{[]int{9, 9}, "12345", 0, 0, "678"},
		{nil, "12", 1, 1, ""},
		{[]int{}, "12", 1, 1, ""},
		{[]int{0, 3}, "12", 1, 0, "678"},
		{[]int{2, 2}, "1234", 1, 1, "67"},
		{[]int{3, 4}, "12345", 0, 0, "678"},
		{[]int{4, 1}, "12345", 0, 1, "6"},
		{[]int{1, 1, 1, 1}, "123", 1, 1, "6"},
		{[]int{math.MinInt, math.MaxInt}, "12", 1, 0, "678"},
		{[]int{math.MaxInt, math.MinInt}, "12345", 0, 1, ""},
	} {
		d := three(t)
		d.Crash(c.keep)
		for _, again := range [][]int{{0, 0}, {9, 9, 9}, nil, {-1}} {
			d.stands("a", 1, 1, c.genA, c.a)
			d.stands("b", 2, 1, c.genB, c.b)
			d.stands("c", 3, 1, 0, "9")
			d.names("a", "b", "c")
			d.Crash(again) // all lasts, so another one at once changes nothing
		}
		d.stands("a", 1, 1, c.genA, c.a)
		d.stands("b", 2, 1, c.genB, c.b)
	}
}

// P14.3: the chapter's fifth example, and the first byte that is too much in other ways.
func TestFull(t *testing.T) {
	d := fresh(t)
	d.create("a", "b", "c")
	great := bytes.Repeat([]byte("x"), api.MaxFile+1)
	d.is("1048575 bytes", d.Append("a", great[:api.MaxFile-1]), api.OK)
	d.is("two more", d.Append("a", []byte("yz")), api.ErrFull)
	d.stands("a", 1, 1, 0, string(great[:api.MaxFile-1]))
	d.is("one more", d.Append("a", []byte("y")), api.OK)
	d.is("none", d.Append("a", nil), api.OK)
	d.is("none", d.Append("a", []byte{}), api.OK)
	d.is("one", d.Append("a", []byte("z")), api.ErrFull)
	d.is("many", d.Append("a", great), api.ErrFull)
	d.stands("a", 1, 1, 0, string(great[:api.MaxFile-1])+"y")
	d.reads(1, 0, api.MaxFile-2, 9, "xy")

	d.is("all at once", d.Append("b", great[:api.MaxFile]), api.OK)
	d.is("one too many at once", d.Append("c", great), api.ErrFull)
	d.stands("c", 3, 1, 0, "")
	d.lay("c", "!")
	d.is("one too many behind one", d.Append("c", great[:api.MaxFile]), api.ErrFull)
	d.is("as many as fit", d.Append("c", great[:api.MaxFile-1]), api.OK)

	// A file that is full has room again when bytes of it went.
	d.is("Sync", d.Sync("b"), api.OK)
	d.is("Cut", d.Cut("a"), api.OK)
	d.Crash([]int{5})
	d.lay("a", "new")
	d.stands("a", 1, 1, 1, "new")
	d.stands("c", 3, 1, 1, "!xxxx")
	d.is("one", d.Append("b", []byte("z")), api.ErrFull)
	d.is("as many as fit", d.Append("c", great[:api.MaxFile-5]), api.OK)
	d.is("one more", d.Append("c", great[:1]), api.ErrFull)
}

// P14.1: a new disk has no file, and no name has had an inode; it is no other's.
func TestNew(t *testing.T) {
	used := fresh(t)
	used.create("a")
	used.lay("a", "x")
	d := fresh(t)
	d.names()
	d.gone(math.MinInt, -1, 0, 1, 2, math.MaxInt)
	for _, name := range []string{"a", "log.1", "\x01", "\xff", strings.Repeat("x", 32)} {
		d.none(name)
		d.is("Append", d.Append(name, []byte("x")), api.ErrNone)
		d.is("Cut", d.Cut(name), api.ErrNone)
		d.is("Rename", d.Rename(name, "b"), api.ErrNone)
		d.is("Remove", d.Remove(name), api.ErrNone)
		d.is("Sync", d.Sync(name), api.ErrNone)
	}
	d.Crash([]int{1, 2, 3})
	d.names()
	d.create("b", "a")
	d.stands("b", 1, 1, 0, "")
	d.stands("a", 2, 1, 0, "")
	used.stands("a", 1, 1, 0, "x")
	used.none("b")
}

// badNames is names that may not be.
func badNames() []string {
	return []string{"", "\x00", "\n", "a\n", "\na", "a\nb", "a\x00", "\x00a", "a\x00b", strings.Repeat("x", 33), strings.Repeat("x", 32) + "\n",
		strings.Repeat("x", 31) + "\n", strings.Repeat("x", 31) + "\x00", strings.Repeat("x", 1<<16), strings.Repeat("é", 17)}
}

// goodNames is names that may be, in the order of their bytes.
func goodNames() []string {
	return []string{"\x01", "\t", "\r", " ", "..", "/", "A", "Z", "a", "a b", "a.1", "aa", "b", strings.Repeat("x", 31), strings.Repeat("x", 32), "\x7f", "\x80", "é", strings.Repeat("é", 16), "ÿ", "\xff", "\xff\xfe"}
}

// P14.2 to P14.8: ErrName of each call, whatever else there is; names that may be.
func TestNamesThatMayBe(t *testing.T) {
	for _, name := range badNames() {
		d := fresh(t)
		d.create("a")
		d.lay("a", "xy")
		ahead := whole(d.Disk, 1, "a", "b", "n")
		d.is("Create", d.Create(name), api.ErrName)
		d.is("Append", d.Append(name, nil), api.ErrName)
		d.is("Append of too many", d.Append(name, make([]byte, api.MaxFile+1)), api.ErrName)
		d.is("Cut", d.Cut(name), api.ErrName)
		d.is("Rename, old", d.Rename(name, "b"), api.ErrName)
		d.is("Rename, old, onto a file", d.Rename(name, "a"), api.ErrName)
		d.is("Rename, other", d.Rename("a", name), api.ErrName)
		d.is("Rename, other, of no file", d.Rename("q", name), api.ErrName)
		d.is("Rename, both", d.Rename(name, name), api.ErrName)
		d.is("Remove", d.Remove(name), api.ErrName)
		d.is("Sync", d.Sync(name), api.ErrName)
		if s, e := d.Stat(name); s != (api.Stat{}) || e != api.ErrName {
			t.Fatalf("Stat(%q) = %v, %v", name, s, e)
		}
		if behind := whole(d.Disk, 1, "a", "b", "n"); behind != ahead {
			t.Fatalf("%q: %s, and ahead of it %s", name, behind, ahead)
		}
	}
	d := fresh(t)
	for i, name := range goodNames() {
		d.create(name)
		d.lay(name, name)
		d.stands(name, i+1, 1, 0, name)
	}
	d.names(goodNames()...)
	for i, name := range goodNames() {
		d.rename(name, "at")
		d.stands("at", i+1, i+1, 0, name)
		d.none(name)
		d.create(name)
		d.rename(name, name+"")
		d.is("Sync", d.Sync(name), api.OK)
		d.is("Cut", d.Cut(name), api.OK)
		d.is("Remove", d.Remove(name), api.OK)
	}
	d.names("at")
}

// P14.2: an inode's number is one above the highest that there ever was, gone or not; the name's serial is one more.
func TestCreate(t *testing.T) {
	d := fresh(t)
	d.create("a", "b")
	d.is("Remove", d.Remove("b"), api.OK)
	d.is("Remove", d.Remove("a"), api.OK)
	d.create("a")
	d.stands("a", 3, 2, 0, "")
	d.gone(1, 2)
	for range 5 {
		d.is("a file there", d.Create("a"), api.ErrThere)
	}
	d.create("b")
	d.stands("b", 4, 2, 0, "")
	d.stands("a", 3, 2, 0, "")
	d.rename("b", "a")
	d.create("b")
	d.stands("b", 5, 3, 0, "")
	d.is("a file there, by Rename", d.Create("a"), api.ErrThere)
	d.is("Cut", d.Cut("a"), api.OK)
	d.is("a file there, without a byte", d.Create("a"), api.ErrThere)

	// A new inode is empty and in generation 0, whatever the name's last one was.
	d.lay("b", "x")
	d.is("Cut", d.Cut("b"), api.OK)
	d.lay("b", "y")
	d.is("Remove", d.Remove("b"), api.OK)
	d.create("b")
	d.stands("b", 6, 4, 0, "")
}

// P14.3: bytes stand behind those that were there; which error comes first.
func TestAppend(t *testing.T) {
	d := fresh(t)
	d.is("no file", d.Append("a", []byte("x")), api.ErrNone)
	d.is("no file, too many bytes", d.Append("a", make([]byte, api.MaxFile+1)), api.ErrNone)
	d.create("a", "b")
	d.is("none", d.Append("a", nil), api.OK)
	d.stands("a", 1, 1, 0, "")
	all := ""
	for i := range 300 {
		text := strings.Repeat(string([]byte{byte(i)}), i%7)
		d.lay("a", text)
		all += text
		d.stands("a", 1, 1, 0, all)
	}
	d.stands("b", 2, 1, 0, "")

	// What was synced stays so, and what comes behind it isn't.
	d.is("Sync", d.Sync("a"), api.OK)
	d.lay("a", "rest")
	d.Crash(nil)
	d.stands("a", 1, 1, 1, all)
	d.is("none", d.Append("a", nil), api.OK)
	d.Crash(nil)
	d.stands("a", 1, 1, 1, all)
	d.rename("a", "b")
	d.is("no file any more", d.Append("a", []byte("x")), api.ErrNone)
	d.lay("b", "!")
	d.stands("b", 1, 2, 1, all+"!")
}

// P14.4: without a byte; another generation, if there was one.
func TestCut(t *testing.T) {
	d := fresh(t)
	d.is("no file", d.Cut("a"), api.ErrNone)
	d.create("a", "b")
	d.lay("b", "other")
	d.is("Cut of none", d.Cut("a"), api.OK)
	d.stands("a", 1, 1, 0, "")
	for gen := range 4 {
		d.lay("a", "12345")
		d.reads(1, gen, 0, 9, "12345")
		if gen%2 == 0 {
			d.is("Sync", d.Sync("a"), api.OK)
		}
		d.is("Cut", d.Cut("a"), api.OK)
		d.stands("a", 1, 1, gen+1, "")
		d.refuses(1, gen, 0, 9, api.ErrGen)
		d.is("Cut of none", d.Cut("a"), api.OK)
		d.stands("a", 1, 1, gen+1, "")
	}

	// A cut lasts at once, and what lasted ahead of it does so no more: bytes behind it are none that were synced.
	d.Crash(nil)
	d.stands("a", 1, 1, 4, "")
	d.lay("a", "67")
	d.Crash([]int{1})
	d.stands("a", 1, 1, 5, "6")
	d.stands("b", 2, 1, 1, "")
	d.is("Remove", d.Remove("a"), api.OK)
	d.is("no file any more", d.Cut("a"), api.ErrNone)
}

// P14.5: onto a name that has an inode, that has none, that never had one; onto itself; the errors.
func TestRename(t *testing.T) {
	d := fresh(t)
	d.is("no file", d.Rename("a", "b"), api.ErrNone)
	d.is("no file, onto itself", d.Rename("a", "a"), api.ErrNone)
	d.create("a", "b")
	d.lay("a", "12")
	d.is("Sync", d.Sync("a"), api.OK)
	d.lay("a", "34")
	d.is("no file, onto one that is there", d.Rename("q", "a"), api.ErrNone)
	d.stands("a", 1, 1, 0, "1234")
	d.rename("a", "a")
	d.stands("a", 1, 1, 0, "1234")
	d.rename("a", "c")
	d.stands("c", 1, 1, 0, "1234")
	d.none("a")
	d.names("b", "c")
	d.rename("c", "b")
	d.stands("b", 1, 2, 0, "1234")
	d.gone(2)
	d.none("c")
	d.names("b")
	d.rename("b", "a")
	d.stands("a", 1, 2, 0, "1234")
	d.none("b")

	// What lasts goes with the inode.
	d.Crash([]int{1})
	d.stands("a", 1, 2, 1, "123")

	// There and back: an inode that had the name twice is counted twice.
	for k := range 5 {
		d.rename("a", "b")
		d.stands("b", 1, 3+k, 1, "123")
		d.rename("b", "a")
		d.stands("a", 1, 3+k, 1, "123")
	}
	d.create("b")
	d.stands("b", 3, 8, 0, "")
	d.is("Remove", d.Remove("a"), api.OK)
	d.is("the inode is gone for ever", d.Rename("a", "b"), api.ErrNone)
	d.gone(1, 2)
	d.rename("b", "a")
	d.stands("a", 3, 8, 0, "")
}

// P14.6: the inode is gone for ever, with its bytes; the serial stays.
func TestRemove(t *testing.T) {
	d := fresh(t)
	d.is("no file", d.Remove("a"), api.ErrNone)
	d.create("a", "b", "c")
	d.lay("b", "x")
	d.is("Remove", d.Remove("b"), api.OK)
	d.none("b")
	d.gone(2)
	d.names("a", "c")
	d.is("no file", d.Remove("b"), api.ErrNone)
	d.create("b")
	d.stands("b", 4, 2, 0, "")
	d.gone(2)
	d.is("Remove", d.Remove("b"), api.OK)
	d.is("Remove", d.Remove("a"), api.OK)
	d.is("Remove", d.Remove("c"), api.OK)
	d.names()
	d.gone(1, 2, 3, 4)

	// Of an inode that was renamed its new name alone is taken away.
	d.create("a")
	d.rename("a", "b")
	d.create("a")
	d.is("Remove", d.Remove("b"), api.OK)
	d.stands("a", 6, 3, 0, "")
	d.gone(5)
}

// P14.7: all bytes of that file last, and of no other; bytes that come later don't.
func TestSync(t *testing.T) {
	d := fresh(t)
	d.is("no file", d.Sync("a"), api.ErrNone)
	d.create("a", "b")
	d.is("of no byte", d.Sync("a"), api.OK)
	d.lay("a", "12")
	d.lay("b", "34")
	d.is("Sync", d.Sync("a"), api.OK)
	d.is("Sync", d.Sync("a"), api.OK)
	d.stands("a", 1, 1, 0, "12")
	d.Crash(nil)
	d.stands("a", 1, 1, 0, "12")
	d.stands("b", 2, 1, 1, "")
	d.lay("a", "56")
	d.is("Sync", d.Sync("a"), api.OK)
	d.lay("a", "7")
	d.Crash(nil)
	d.stands("a", 1, 1, 1, "1256")
	d.is("Remove", d.Remove("a"), api.OK)
	d.is("no file any more", d.Sync("a"), api.ErrNone)
}

// P14.8, P14.9: what is told, by a name and by a number.
func TestStat(t *testing.T) {
	d := fresh(t)
	d.create("a", "b", "c")
	d.lay("b", "123")
	d.stands("a", 1, 1, 0, "")
	d.stands("b", 2, 1, 0, "123")
	d.gone(math.MinInt, -2, -1, 0, 4, 1<<32, math.MaxInt)
	d.rename("b", "a")
	d.rename("a", "c")
	d.is("Cut", d.Cut("c"), api.OK)
	d.lay("c", "4")
	d.stands("c", 2, 2, 1, "4") // the serial is that of the name that the inode has now
	d.gone(1, 3)
	d.none("a")
	d.none("b")
	d.none("C")
	d.none("c ")
}

// P14.10: pieces of a file, and which error comes first.
func TestRead(t *testing.T) {
	d := fresh(t)
	text := "0123456789\n\x00\xff"
	d.create("gone", "a", "empty")
	d.lay("a", text[:4])
	d.is("Sync", d.Sync("a"), api.OK)
	d.lay("a", text[4:])
	d.is("Remove", d.Remove("gone"), api.OK)
	for off := range len(text) + 3 {
		for size := range len(text) + 3 {
			from := min(off, len(text))
			d.reads(2, 0, off, size, text[from:min(from+size, len(text))])
		}
		d.reads(2, 0, off, math.MaxInt, text[min(off, len(text)):])
		d.reads(3, 0, off, off, "")
	}
	d.reads(2, 0, math.MaxInt, math.MaxInt, "")
	d.reads(2, 0, math.MaxInt, 0, "")
	d.reads(2, 0, 1, math.MaxInt, text[1:])

	for _, wrong := range [][2]int{{-1, 1}, {1, -1}, {-1, -1}, {math.MinInt, 0}, {0, math.MinInt}, {math.MaxInt, -1}} {
		for _, n := range []int{-1, 0, 1, 2, 4} { // ahead of ErrGone
			for _, gen := range []int{-1, 0, 1} { // ahead of ErrGen
				d.refuses(n, gen, wrong[0], wrong[1], api.ErrInval)
			}
		}
	}
	for _, n := range []int{math.MinInt, -1, 0, 1, 4, math.MaxInt} {
		for _, gen := range []int{-1, 0, 1} {
			d.refuses(n, gen, 0, 1, api.ErrGone)
		}
	}
	for _, gen := range []int{math.MinInt, -1, 1, 2, math.MaxInt} {
		d.refuses(2, gen, 0, 1, api.ErrGen)
		d.refuses(2, gen, 99, 0, api.ErrGen)
		d.refuses(3, gen, 0, 0, api.ErrGen)
	}
	d.rename("a", "b") // an inode is read whatever its name is
	d.reads(2, 0, 0, 4, text[:4])
	d.Crash(nil)
	d.refuses(2, 0, 0, 4, api.ErrGen)
	d.reads(2, 1, 0, 9, text[:4])
}

// P14.11: no file; the order of bytes, not that of making, of length or of runes.
func TestNames(t *testing.T) {
	d := fresh(t)
	d.names()
	order := chance(11).Perm(len(goodNames()))
	for _, i := range order {
		d.create(goodNames()[i])
	}
	for range 20 { // a map's order is another one each time
		d.names(goodNames()...)
	}
	for _, i := range order[3:] {
		d.is("Remove", d.Remove(goodNames()[i]), api.OK)
	}
	left := []string{goodNames()[order[0]], goodNames()[order[1]], goodNames()[order[2]]}
	slices.Sort(left)
	d.names(left...)
	d.rename(left[0], left[2])
	d.names(left[1:]...)
	d.rename(left[1], left[1])
	d.names(left[1:]...)
	d.is("Remove", d.Remove(left[1]), api.OK)
	d.is("Remove", d.Remove(left[2]), api.OK)
	d.names()
}

// P14.12: rising inode numbers, not names, among those alone that have bytes that were not synced; gone ones don't count.
func TestCrashOrder(t *testing.T) {
	d := fresh(t)
	d.create("i1", "i2", "i3", "i4", "i5", "i6", "i7", "i8", "i9", "i10", "i11", "i12")
	for i := 1; i <= 12; i++ {
		d.lay(fmt.Sprint("i", i), "abcdef")
	}
	d.is("Sync", d.Sync("i2"), api.OK)
	d.is("Sync", d.Sync("i4"), api.OK)
	d.lay("i4", "gh")
	d.is("Cut", d.Cut("i5"), api.OK)
	d.is("Remove", d.Remove("i6"), api.OK)
	d.rename("i8", "i7") // 7 is gone
	d.rename("i1", "z")
	d.rename("i12", "A")
	keep := []int{1, 2, 1, 3, 4, 5, 6, 2, 99}
	for range 10 { // whatever a map's order is
		c := tester{t, d.Copy()}
		c.Crash(keep)
		c.stands("z", 1, 1, 1, "a")
		c.stands("i2", 2, 1, 0, "abcdef")
		c.stands("i3", 3, 1, 1, "ab")
		c.stands("i4", 4, 1, 1, "abcdefg")
		c.stands("i5", 5, 1, 1, "")
		c.stands("i7", 8, 2, 1, "abc")
		c.stands("i9", 9, 1, 1, "abcd")
		c.stands("i10", 10, 1, 1, "abcde")
		c.stands("i11", 11, 1, 0, "abcdef")
		c.stands("A", 12, 1, 1, "ab")
		c.gone(6, 7)
		c.names("A", "i10", "i11", "i2", "i3", "i4", "i5", "i7", "i9", "z")
		c.create("i6", "i8")
		c.stands("i6", 13, 2, 0, "")
		c.stands("i8", 14, 2, 0, "")
	}
}

// P14.12: what stays lasts, and what comes behind it doesn't.
func TestCrashAgain(t *testing.T) {
	d := fresh(t)
	d.create("a", "b")
	d.lay("a", "123")
	d.lay("b", "4")
	d.Crash([]int{2, 1})
	d.stands("a", 1, 1, 1, "12")
	d.stands("b", 2, 1, 0, "4")
	d.lay("b", "56")
	d.Crash([]int{1}) // b alone has such bytes now
	d.stands("a", 1, 1, 1, "12")
	d.stands("b", 2, 1, 1, "45")
	d.lay("a", "7")
	d.Crash([]int{0, 9})
	d.stands("a", 1, 1, 2, "12")
	d.stands("b", 2, 1, 1, "45")
	d.Crash(nil)
	d.stands("a", 1, 1, 2, "12")

	// Bytes that are cut, or whose file goes, are none that a crash could take.
	d.lay("a", "8")
	d.is("Cut", d.Cut("a"), api.OK)
	d.lay("b", "9")
	d.Crash([]int{1, 0})
	d.stands("a", 1, 1, 3, "")
	d.stands("b", 2, 1, 1, "459")
}

// P14.13: the same state in all that can be asked at once or later, and what is done to one isn't seen on the other.
func TestCopy(t *testing.T) {
	d := three(t)
	d.create("d", "e")
	d.lay("d", "old")
	d.is("Cut", d.Cut("d"), api.OK)
	d.is("Remove", d.Remove("e"), api.OK)
	c := tester{t, d.Copy()}
	c.names("a", "b", "c", "d")
	c.stands("a", 1, 1, 0, "12345")
	c.stands("b", 2, 1, 0, "678")
	c.stands("c", 3, 1, 0, "9")
	c.stands("d", 4, 1, 1, "")
	c.gone(5)

	// The next inode's number and a serial that stayed.
	c.create("e", "f")
	c.stands("e", 6, 2, 0, "")
	c.stands("f", 7, 1, 0, "")
	d.none("e")
	d.gone(6, 7)
	d.create("f")
	d.stands("f", 6, 1, 0, "")
	c.stands("f", 7, 1, 0, "")
	d.create("e")
	d.stands("e", 7, 2, 0, "")

	// Names and serials.
	c.rename("d", "c")
	d.stands("c", 3, 1, 0, "9")
	d.stands("d", 4, 1, 1, "")
	d.rename("a", "x")
	c.stands("a", 1, 1, 0, "12345")
	c.none("x")
	c.stands("c", 4, 2, 1, "")

	// What lasts, and generations.
	d.is("Sync", d.Sync("b"), api.OK)
	c.Crash([]int{1, 1})
	c.stands("a", 1, 1, 1, "123")
	c.stands("b", 2, 1, 1, "6")
	d.stands("x", 1, 1, 0, "12345")
	d.stands("b", 2, 1, 0, "678")
	d.Crash([]int{2})
	d.stands("x", 1, 1, 1, "1234")
	d.stands("b", 2, 1, 0, "678")
	c.is("Cut", c.Cut("a"), api.OK)
	d.is("Remove", d.Remove("b"), api.OK)
	d.stands("x", 1, 1, 1, "1234")
	c.stands("b", 2, 1, 1, "6")
}

// P14.13, W3: a copy shares no room behind bytes with its disk.
func TestCopyRoom(t *testing.T) {
	for n := range 70 {
		d := fresh(t)
		d.create("a")
		for range n {
			d.lay("a", "x")
		}
		c, k := tester{t, d.Copy()}, tester{t, d.Copy()}
		d.lay("a", "one")
		c.lay("a", "two")
		k.lay("a", "six")
		front := strings.Repeat("x", n)
		d.stands("a", 1, 1, 0, front+"one")
		c.stands("a", 1, 1, 0, front+"two")
		k.stands("a", 1, 1, 0, front+"six")
		c.Crash([]int{n})
		d.Crash([]int{n + 1})
		c.lay("a", "ten")
		d.stands("a", 1, 1, 1, front+"o")
		c.stands("a", 1, 1, 1, front+"ten")
		k.stands("a", 1, 1, 0, front+"six")
	}
}

// P14.14, W3: what is handed in may be written over, and isn't changed, nor is the room behind it.
func TestHandedIn(t *testing.T) {
	d := fresh(t)
	d.create("a", "b")
	room := []byte("abcdef")
	d.is("Append", d.Append("a", room[:3]), api.OK)
	d.lay("a", "xy")
	d.is("Append", d.Append("b", room[:3]), api.OK)
	if string(room) != "abcdef" {
		t.Fatalf("Append has made %q of what it was handed", room)
	}
	copy(room, "------")
	d.stands("a", 1, 1, 0, "abcxy")
	d.stands("b", 2, 1, 0, "abc")

	keep := []int{2, 9, 7, 7}
	d.Crash(keep[:2])
	if !slices.Equal(keep, []int{2, 9, 7, 7}) {
		t.Fatalf("Crash has made %v of what it was handed", keep)
	}
	d.stands("a", 1, 1, 1, "ab")
	copy(keep, []int{0, 0, 0, 0})
	d.Crash(keep)
	d.stands("a", 1, 1, 1, "ab")
	d.stands("b", 2, 1, 0, "abc")
}

// P14.14, W3: what is answered may be written over and appended to.
func TestAnswered(t *testing.T) {
	d := fresh(t)
	d.create("a", "b")
	d.lay("a", "0123456789")
	first, _ := d.Read(1, 0, 2, 4)
	second, _ := d.Read(1, 0, 2, 4)
	none, _ := d.Read(1, 0, 10, 4)
	for i := range first {
		first[i] = '-'
	}
	_ = append(first, "----"...)
	_ = append(none, "----"...)
	if string(second) != "2345" {
		t.Fatalf("another answer is %q now", second)
	}
	d.lay("a", "ab")
	_ = append(second[:cap(second)], "----"...)
	for i := range second[:cap(second)] {
		second[:cap(second)][i] = '+'
	}
	d.stands("a", 1, 1, 0, "0123456789ab")
	kept, _ := d.Read(1, 0, 0, 99)
	d.Crash(nil)
	d.lay("a", "XXXXXXXXXXXXXXXX")
	if string(kept) != "0123456789ab" {
		t.Fatalf("an answer is %q behind a crash", kept)
	}

	names, others := d.Names(), d.Names()
	names[0], names[1] = "x", "y"
	_ = append(names, "z")
	_ = append(names[:0], "q", "r", "s")
	if !slices.Equal(others, []string{"a", "b"}) {
		t.Fatalf("another answer is %q now", others)
	}
	d.names("a", "b")
	d.stands("a", 1, 1, 1, "XXXXXXXXXXXXXXXX")
}

// P14.14, W2: refused calls change nothing, not what lasts, not the next inode's number, not a serial.
func TestRefused(t *testing.T) {
	d := three(t)
	d.create("d")
	d.is("Remove", d.Remove("d"), api.OK)
	ahead := whole(d.Disk, 4, "a", "b", "c", "d", "n")
	for what, refused := range map[string]func() api.Errno{
		"Create of one that is there": func() api.Errno { return d.Create("a") },
		"Create of no name":           func() api.Errno { return d.Create("") },
		"Append to none":              func() api.Errno { return d.Append("d", []byte("x")) },
		"Append to none ever":         func() api.Errno { return d.Append("n", []byte("x")) },
		"Append of too many":          func() api.Errno { return d.Append("a", make([]byte, api.MaxFile)) },
		"Cut of none":                 func() api.Errno { return d.Cut("d") },
		"Rename of none":              func() api.Errno { return d.Rename("d", "a") },
		"Rename of none ever":         func() api.Errno { return d.Rename("n", "d") },
		"Rename of none onto itself":  func() api.Errno { return d.Rename("n", "n") },
		"Rename to no name":           func() api.Errno { return d.Rename("a", "\n") },
		"Remove of none":              func() api.Errno { return d.Remove("n") },
		"Sync of none":                func() api.Errno { return d.Sync("d") },
		"Stat of none":                func() api.Errno { _, e := d.Stat("n"); return e },
		"Inode of none":               func() api.Errno { _, e := d.Inode(4); return e },
		"Read of none":                func() api.Errno { _, e := d.Read(4, 0, 0, 1); return e },
		"Read of another generation":  func() api.Errno { _, e := d.Read(1, 1, 0, 1); return e },
		"Read ahead of the beginning": func() api.Errno { _, e := d.Read(1, 0, -1, 1); return e },
	} {
		if e := refused(); e == api.OK {
			t.Fatalf("%s isn't refused", what)
		}
		if behind := whole(d.Disk, 4, "a", "b", "c", "d", "n"); behind != ahead {
			t.Fatalf("%s: %s, and ahead of it %s", what, behind, ahead)
		}
	}
}

// P14.8 to P14.11, P14.13: what only asks changes nothing.
func TestAskingChangesNothing(t *testing.T) {
	d := three(t)
	ahead := whole(d.Disk, 3, "a", "b", "c", "n")
	d.Stat("a")
	d.Inode(1)
	d.Read(1, 0, 0, 3)
	d.Names()
	d.Copy().Crash(nil)
	d.Rename("a", "a")
	d.Append("c", nil)
	if behind := whole(d.Disk, 3, "a", "b", "c", "n"); behind != ahead {
		t.Fatalf("%s, and ahead of it %s", behind, ahead)
	}
}
