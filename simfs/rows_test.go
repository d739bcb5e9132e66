package simfs_test

import (
	"bytes"
	"fmt"
	"slices"
	"strings"
	"sync"
	"testing"
	"time"

	"heron/api"
	"heron/simfs"
)

// step is a call of a disk: how it is told, and what it does and answers.
type step struct {
	what string
	do   func(d files) string
}

// steps is a few calls of every kind, whose rows come to all that the chapter tells apart.
func steps() []step {
	tell := func(e api.Errno) string { return e.Error() }
	return []step{
		{"create a", func(d files) string { return tell(d.Create("a")) }},
		{"create b", func(d files) string { return tell(d.Create("b")) }},
		{"append a", func(d files) string { return tell(d.Append("a", []byte("xyz"))) }},
		{"append b", func(d files) string { return tell(d.Append("b", []byte("pq"))) }},
		{"cut a", func(d files) string { return tell(d.Cut("a")) }},
		{"rename a b", func(d files) string { return tell(d.Rename("a", "b")) }},
		{"rename b a", func(d files) string { return tell(d.Rename("b", "a")) }},
		{"rename a a", func(d files) string { return tell(d.Rename("a", "a")) }},
		{"remove a", func(d files) string { return tell(d.Remove("a")) }},
		{"sync a", func(d files) string { return tell(d.Sync("a")) }},
		{"crash 1", func(d files) string { d.Crash([]int{1}); return "" }},
		{"crash 0 9", func(d files) string { d.Crash([]int{0, 9}); return "" }},
	}
}

// goOn does every row of so many steps to two disks, and holds them against each other behind each step.
func goOn(t *testing.T, d *simfs.Disk, s *slowDisk, row string, left int) {
	t.Helper()
	for _, x := range steps() {
		fast, slow := d.Copy(), s.Copy()
		told := row + x.what + "; "
		if got, want := x.do(fast), x.do(slow); got != want {
			t.Fatalf("%s: %s, want %s", told, got, want)
		}
		if got, want := state(fast, 9), slow.state(); got != want {
			t.Fatalf("%s: %s, want %s", told, got, want)
		}
		if got, want := fast.Names(), slow.Names(); !slices.Equal(got, want) {
			t.Fatalf("%s: %q, want %q", told, got, want)
		}
		if left > 1 {
			goOn(t, fast, slow, told, left-1)
		} else if got, want := whole(fast, 9, "a", "b", "c"), slowWhole(slow, "a", "b", "c"); got != want {
			t.Fatalf("%s: %s, want %s", told, got, want)
		}
	}
}

// P14.1 to P14.13: every short row of calls against the chapter's words done slowly, on a new disk and on one with files.
func TestShortRows(t *testing.T) {
	goOn(t, simfs.New(), &slowDisk{}, "", 4)
	d, s := simfs.New(), &slowDisk{}
	for _, x := range []files{d, s} {
		x.Create("b")
		x.Create("a")
		x.Append("b", []byte("12"))
		x.Append("a", []byte("34"))
		x.Sync("b")
		x.Append("b", []byte("56"))
	}
	goOn(t, d, s, "with files: ", 4)
}

// change does something by chance to some disks, and tells what it was and what each answered.
func change(c chooser, disks ...files) (string, []api.Errno) {
	name, other, text, keep, kind := c.name(), c.name(), c.text(), c.keep(), c.Intn(20)
	answers := make([]api.Errno, len(disks))
	what := ""
	for i, d := range disks {
		switch {
		case kind < 4:
			what, answers[i] = fmt.Sprintf("Create(%q)", name), d.Create(name)
		case kind < 10:
			what, answers[i] = fmt.Sprintf("Append(%q, %q)", name, text), d.Append(name, text)
		case kind < 11:
			what, answers[i] = fmt.Sprintf("Cut(%q)", name), d.Cut(name)
		case kind < 14:
			what, answers[i] = fmt.Sprintf("Rename(%q, %q)", name, other), d.Rename(name, other)
		case kind < 15:
			what, answers[i] = fmt.Sprintf("Remove(%q)", name), d.Remove(name)
		case kind < 18:
			what, answers[i] = fmt.Sprintf("Sync(%q)", name), d.Sync(name)
		default:
			what = fmt.Sprintf("Crash(%v)", keep)
			d.Crash(keep)
		}
	}
	return what, answers
}

// sameAnswers holds what two disks are asked by chance against each other.
func sameAnswers(t *testing.T, c chooser, d *simfs.Disk, s *slowDisk) {
	t.Helper()
	name := c.name()
	got, e := d.Stat(name)
	if want, wantE := s.Stat(name); got != want || e != wantE {
		t.Fatalf("Stat(%q) = %v, %v, want %v, %v", name, got, e, want, wantE)
	}
	n := c.Intn(len(s.inodes)+3) - 1
	got, e = d.Inode(n)
	if want, wantE := s.Inode(n); got != want || e != wantE {
		t.Fatalf("Inode(%d) = %v, %v, want %v, %v", n, got, e, want, wantE)
	}
	gen, off, size := got.Gen, c.Intn(got.Size+3)-1, c.Intn(got.Size+3)-1
	if c.Intn(5) == 0 {
		gen += c.Intn(3) - 1
	}
	b, e := d.Read(n, gen, off, size)
	if want, wantE := s.Read(n, gen, off, size); !bytes.Equal(b, want) || e != wantE {
		t.Fatalf("Read(%d, %d, %d, %d) = %q, %v, want %q, %v", n, gen, off, size, b, e, want, wantE)
	}
	if got, want := d.Names(), s.Names(); !slices.Equal(got, want) {
		t.Fatalf("Names() = %q, want %q", got, want)
	}
}

// P14.1 to P14.14: long rows by chance, on disks and on copies of them that go on apart.
func TestRowsByChance(t *testing.T) {
	for seed := range int64(150) {
		c := chance(seed)
		d, s := []*simfs.Disk{simfs.New()}, []*slowDisk{{}}
		var row []string
		for range 150 {
			i := c.Intn(len(d))
			if len(d) < 4 && c.Intn(40) == 0 {
				d, s = append(d, d[i].Copy()), append(s, s[i].Copy())
			}
			what, answers := change(c, d[i], s[i])
			row = append(row, fmt.Sprint(i, " ", what))
			if answers[0] != answers[1] {
				t.Fatalf("%v: %v, want %v", row, answers[0], answers[1])
			}
			for k := range d {
				if got, want := state(d[k], len(s[k].inodes)), s[k].state(); got != want {
					t.Fatalf("%v: disk %d has %s, want %s", row, k, got, want)
				}
			}
			sameAnswers(t, c, d[i], s[i])
		}
		names := []string{"a", "b", "log", "log.1", "A", "\xff", "ab", strings.Repeat("x", 32), "new"}
		for k := range d {
			if got, want := whole(d[k], len(s[k].inodes), names...), slowWhole(s[k], names...); got != want {
				t.Fatalf("%v: disk %d has %s, want %s", row, k, got, want)
			}
		}
	}
}

// seen is what a test has seen of a disk: each generation's bytes, each name's serial, how many bytes of each inode last.
type seen struct {
	bytes   map[[2]int]string
	serials map[string]int
	lasts   map[int]int
	highest int
}

// look asks of each file that it keeps what P14.15 says, and remembers it.
func (x *seen) look(t *testing.T, d *simfs.Disk, what string) {
	t.Helper()
	for _, name := range d.Names() {
		s, _ := d.Stat(name)
		b, _ := d.Read(s.Inode, s.Gen, 0, s.Size)
		key := [2]int{s.Inode, s.Gen}
		if !strings.HasPrefix(string(b), x.bytes[key]) {
			t.Fatalf("%s: inode %d, generation %d: %q, and %q ahead of it", what, s.Inode, s.Gen, b, x.bytes[key])
		}
		if s.Serial < x.serials[name] || s.Serial > x.serials[name]+1 {
			t.Fatalf("%s: the serial of %q is %d, and was %d", what, name, s.Serial, x.serials[name])
		}
		x.bytes[key], x.serials[name] = string(b), s.Serial
		x.highest = max(x.highest, s.Inode)
	}
}

// crash asks of a crash what P14.15 says of it.
func (x *seen) crash(t *testing.T, d *simfs.Disk, keep []int) {
	t.Helper()
	ahead := d.Copy()
	d.Crash(keep)
	if !slices.Equal(ahead.Names(), d.Names()) {
		t.Fatalf("Crash(%v): %q of %q", keep, d.Names(), ahead.Names())
	}
	for _, name := range d.Names() {
		was, _ := ahead.Stat(name)
		is, _ := d.Stat(name)
		old, _ := ahead.Read(was.Inode, was.Gen, 0, was.Size)
		b, _ := d.Read(is.Inode, is.Gen, 0, is.Size)
		if was.Inode != is.Inode || was.Serial != is.Serial || !bytes.HasPrefix(old, b) || len(b) < x.lasts[is.Inode] {
			t.Fatalf("Crash(%v): %v %q of %v %q, of which %d last", keep, is, b, was, old, x.lasts[is.Inode])
		}
		if (is.Gen == was.Gen) != (is.Size == was.Size) || is.Gen > was.Gen+1 || is.Gen < was.Gen {
			t.Fatalf("Crash(%v): %v of %v", keep, is, was)
		}
		x.lasts[is.Inode] = is.Size
	}
	behind := whole(d, x.highest, "a", "b")
	d.Crash([]int{0, 1, 2})
	if again := whole(d, x.highest, "a", "b"); again != behind {
		t.Fatalf("another crash at once: %s of %s", again, behind)
	}
}

// arrives does a Create or a Rename, of which P14.15 says what serials and numbers do.
func (x *seen) arrives(t *testing.T, c chooser, d *simfs.Disk) {
	t.Helper()
	name, old := c.name(), c.name()
	if c.Intn(2) == 0 {
		if d.Create(name) != api.OK {
			return
		}
		if s, _ := d.Stat(name); s.Inode <= x.highest || s.Serial != x.serials[name]+1 {
			t.Fatalf("Create(%q): %v behind inode %d and the serial %d", name, s, x.highest, x.serials[name])
		}
		return
	}
	was, e := d.Stat(old)
	if e != api.OK || d.Rename(old, name) != api.OK || old == name {
		return
	}
	if s, _ := d.Stat(name); s.Inode != was.Inode || s.Gen != was.Gen || s.Serial != x.serials[name]+1 {
		t.Fatalf("Rename(%q, %q): %v of %v behind the serial %d", old, name, s, was, x.serials[name])
	}
}

// P14.15: what follows, along long rows by chance.
func TestFollows(t *testing.T) {
	for seed := range int64(100) {
		c := chance(1000 + seed)
		d := simfs.New()
		x := &seen{bytes: map[[2]int]string{}, serials: map[string]int{}, lasts: map[int]int{}}
		for range 200 {
			what, name := "", c.name()
			switch c.Intn(10) {
			case 0, 1, 2:
				what = "an arrival"
				x.arrives(t, c, d)
			case 3, 4, 5, 6:
				what = "Append"
				d.Append(name, c.text())
			case 7:
				what = "Cut or Remove"
				if s, e := d.Stat(name); e == api.OK {
					x.lasts[s.Inode] = 0
				}
				if c.Intn(2) == 0 {
					d.Cut(name)
				} else {
					d.Remove(name)
				}
			case 8:
				what = "Sync"
				if s, e := d.Stat(name); d.Sync(name) == api.OK && e == api.OK {
					x.lasts[s.Inode] = s.Size
				}
			default:
				what = "Crash"
				x.crash(t, d, c.keep())
			}
			x.look(t, d, what)
		}
	}
}

// P14.13, W5: a disk and its copies may go on at once in several goroutines, since they share nothing; one disk may be asked by several.
func TestCopiesAtOnce(t *testing.T) {
	d := three(t).Disk
	copies := []*simfs.Disk{d, d.Copy(), d.Copy(), d.Copy()}
	told := make([]string, len(copies))
	var all sync.WaitGroup
	for i, x := range copies {
		all.Go(func() {
			c := chance(7)
			for range 300 {
				change(c, x)
			}
			told[i] = whole(x, 400, "a", "b", "c", "log")
		})
	}
	all.Wait()
	for i := range told {
		if told[i] != told[0] {
			t.Fatalf("copy %d: %s, and the first one: %s", i, told[i], told[0])
		}
	}
	for range 4 {
		all.Go(func() {
			if again := whole(d, 400, "a", "b", "c", "log"); again != told[0] {
				t.Errorf("%s, and ahead of it %s", again, told[0])
			}
		})
	}
	all.Wait()
}

// W1: many inodes, most of them gone, and many bytes.
func TestMany(t *testing.T) {
	done := make(chan string)
	go func() { done <- many() }()
	select {
	case fault := <-done:
		if fault != "" {
			t.Fatal(fault)
		}
	case <-time.After(60 * time.Second):
		t.Fatal("it doesn't end soon")
	}
}

// many makes a disk with many inodes, and tells what is wrong with it.
func many() string {
	d := simfs.New()
	const gone, left = 300000, 3000
	for range gone {
		d.Create("a")
		d.Append("a", []byte("x"))
		d.Remove("a")
	}
	for i := range left {
		name := fmt.Sprintf("f%04d", i)
		d.Create(name)
		for range 100 {
			d.Append(name, []byte("x"))
		}
	}
	keep := make([]int, left)
	for i := range keep {
		keep[i] = i % 101
	}
	for range 20 { // each crash goes through the inodes that are left, not through all that ever were
		c := d.Copy()
		c.Crash(keep)
		for i, name := range c.Names() {
			want := api.Stat{Inode: gone + i + 1, Serial: 1, Gen: 1, Size: i % 101}
			if i%101 == 100 {
				want.Gen = 0
			}
			if s, e := c.Stat(name); s != want || e != api.OK {
				return fmt.Sprintf("%s: %v, %v, want %v", name, s, e, want)
			}
		}
	}
	d.Create("a")
	if s, _ := d.Stat("a"); s != (api.Stat{Inode: gone + left + 1, Serial: gone + 1}) {
		return fmt.Sprintf("the last one: %v", s)
	}
	return ""
}
