package follow_test

import (
	"fmt"
	"slices"
	"strings"
	"sync"
	"testing"
	"time"

	"heron/api"
	"heron/follow"
	"heron/simfs"
)

// pair is a follower and the slow one, which do the same.
type pair struct {
	f *follow.Follower
	s *slowFollower
}

// sameNew makes both with a mark, and holds them against each other.
func sameNew(t *testing.T, p api.Path, line, chunk int, m api.Mark, d *simfs.Disk, row []string) pair {
	t.Helper()
	f, e := follow.New(p, line, chunk, m, d)
	s, want := slowNew(p, line, chunk, m, d)
	if e != want || (f == nil) != (s == nil) {
		t.Fatalf("%q: New(%q, %d, %d, %v): %v, %v, want %v", row, p, line, chunk, m, f, e, want)
	}
	if f != nil && (f.Mark() != s.Mark() || f.Held() != 0) {
		t.Fatalf("%q: New(%q, %d, %d, %v): %v, %d, want %v", row, p, line, chunk, m, f.Mark(), f.Held(), s.Mark())
	}
	return pair{f, s}
}

// sameStep does a step of both, and holds what they answer against each other.
func (x pair) sameStep(t *testing.T, d *simfs.Disk, row []string) {
	t.Helper()
	if got, want := stepped(x.f, d), stepped(x.s, d); got != want {
		t.Fatalf("%q: Step: %v, want %v", row, got, want)
	}
}

// events is a few of every kind, whose rows come to all that the chapter tells apart; the one without a deed is a step.
func events() []event {
	return []event{
		{"step", nil},
		{"create a", func(d *simfs.Disk) { d.Create("a") }},
		{"append a", func(d *simfs.Disk) { d.Append("a", []byte("x\n\nyz\nlong")) }},
		{"append a.1", func(d *simfs.Disk) { d.Append("a.1", []byte("p\n")) }},
		{"cut a", func(d *simfs.Disk) { d.Cut("a") }},
		{"rename a a.1", func(d *simfs.Disk) { d.Rename("a", "a.1") }},
		{"rename a.1 a", func(d *simfs.Disk) { d.Rename("a.1", "a") }},
		{"rename a b", func(d *simfs.Disk) { d.Rename("a", "b") }},
		{"remove a", func(d *simfs.Disk) { d.Remove("a") }},
		{"crash 3", func(d *simfs.Disk) { d.Crash([]int{3}) }},
	}
}

// event is something that is done to a disk, or a step.
type event struct {
	what string
	do   func(d *simfs.Disk)
}

// goOn does every row of so many events behind some that stand ahead, each row from its beginning on.
func goOn(t *testing.T, ahead, row []event, left int) {
	t.Helper()
	if left > 0 {
		for _, e := range events() {
			goOn(t, ahead, append(row[:len(row):len(row)], e), left-1)
		}
		return
	}
	d := simfs.New()
	var told []string
	x := sameNew(t, usual, 2, 3, api.Mark{}, d, nil)
	for _, e := range slices.Concat(ahead, row) {
		if told = append(told, e.what); e.do != nil {
			e.do(d)
			continue
		}
		x.sameStep(t, d, told)
	}
	again := sameNew(t, usual, 2, 3, x.f.Mark(), d, append(told, "anew"))
	for range 4 {
		again.sameStep(t, d, append(told, "anew"))
		x.sameStep(t, d, told)
	}
}

// P17.1 to P17.3: every short row of events and steps against the chapter's words done slowly: on a new disk, in the midst of a file, at the end of one behind its rotation.
func TestShortRows(t *testing.T) {
	step := event{"step", nil}
	begun := event{"create a, append a", func(d *simfs.Disk) { d.Create("a"); d.Append("a", []byte("1\n234\n5")) }}
	rotated := event{"rename a a.1, create a", func(d *simfs.Disk) { d.Rename("a", "a.1"); d.Create("a") }}
	goOn(t, nil, nil, 4)
	goOn(t, []event{begun, step, step, step}, nil, 4)
	goOn(t, []event{begun, step, step, step, step, step, rotated}, nil, 4)
}

// P17.1 to P17.4: long rows by chance against the chapter's words done slowly, from a mark by chance on; each step is handed the disk or a copy, and changes nothing of it.
func TestRowsByChance(t *testing.T) {
	for seed := range int64(300) {
		c := chance(seed)
		d := simfs.New()
		var row []string
		for range c.Intn(20) {
			row = append(row, c.write(d))
		}
		p := []api.Path{usual, usual, {Name: "a"}, {Name: "a", Rotated: "a"}, {Name: "a.1", Rotated: "a"}}[c.Intn(5)]
		line, chunk := 1+c.Intn(6), 1+c.Intn(9)
		x := sameNew(t, p, line, chunk, c.mark(d), d, row)
		for range 150 {
			row = append(row, c.write(d))
			for range c.Intn(4) {
				on := []*simfs.Disk{d, d.Copy()}[c.Intn(2)]
				ahead := stateOf(on)
				x.sameStep(t, on, row)
				row = append(row, "Step")
				if behind := stateOf(on); behind != ahead {
					t.Fatalf("%q: the disk is %s, and was %s", row, behind, ahead)
				}
			}
			if c.Intn(20) == 0 {
				m := []api.Mark{x.f.Mark(), c.mark(d)}[c.Intn(2)]
				row = append(row, fmt.Sprint("New ", m))
				x = sameNew(t, p, line, chunk, m, d, row)
			}
		}
	}
}

// P17.4: each step may be handed another disk: one that has gone on apart, an older one, one that knows nothing of what is held.
func TestOtherDisks(t *testing.T) {
	for seed := range int64(200) {
		c := chance(1000 + seed)
		disks := []*simfs.Disk{simfs.New(), simfs.New()}
		var row []string
		x := sameNew(t, usual, 1+c.Intn(6), 1+c.Intn(9), api.Mark{}, disks[0], nil)
		for range 150 {
			i := c.Intn(len(disks))
			if len(disks) < 5 && c.Intn(20) == 0 {
				disks = append(disks, disks[i].Copy())
			}
			row = append(row, fmt.Sprint(i, " ", c.write(disks[i])))
			i = c.Intn(len(disks))
			for range c.Intn(4) {
				row = append(row, fmt.Sprint(i, " Step"))
				x.sameStep(t, disks[i], row)
			}
		}
	}
}

// lineFault tells what is wrong with a line that was answered, by what stands on the disk.
func lineFault(d *simfs.Disk, l api.Line, most int) string {
	m := l.Mark
	if len(l.Text) > most || strings.Contains(l.Text, "\n") {
		return "a line that may not be"
	}
	b, e := d.Read(m.Inode, m.Gen, m.Off, len(l.Text)+1)
	if e != api.OK || string(b) != l.Text+"\n" {
		return fmt.Sprintf("%q (%v) stands there", b, e)
	}
	return markFault(d, m)
}

// markFault tells what is wrong with a mark, as far as the disk has its generation still.
func markFault(d *simfs.Disk, m api.Mark) string {
	if m.Off == 0 {
		return ""
	}
	if b, e := d.Read(m.Inode, m.Gen, m.Off-1, 1); e == api.OK && string(b) != "\n" {
		return fmt.Sprintf("%q stands ahead of the mark", b)
	}
	return ""
}

// place is a mark's place: these are held against each other number by number.
func place(m api.Mark) []int { return []int{m.Serial, m.Gen, m.Off} }

// P17.5, P0.1, P0.2, P0.5: along long rows by chance each line stands where its mark says, places rise strictly, marks are lines' beginnings; also where the follower is made anew with its mark.
func TestFollows(t *testing.T) {
	for seed := range int64(300) {
		c := chance(2000 + seed)
		d, most, chunk := simfs.New(), 1+c.Intn(6), 1+c.Intn(9)
		f, _ := follow.New(usual, most, chunk, api.Mark{}, d)
		var row []string
		last := []int{0, 0, -1}
		for range 150 {
			row = append(row, c.write(d))
			for range c.Intn(5) {
				ahead := f.Mark()
				l, whole := f.Step(d)
				row = append(row, "Step")
				if fault := markFault(d, f.Mark()); fault != "" || f.Held() > most || f.Held() < 0 {
					t.Fatalf("%q: mark %v, held %d: %s", row, f.Mark(), f.Held(), fault)
				}
				if !whole {
					continue
				}
				if fault := lineFault(d, l, most); fault != "" || l.Mark != ahead || slices.Compare(last, place(l.Mark)) >= 0 {
					t.Fatalf("%q: %v behind %v, at the mark %v: %s", row, l, last, ahead, fault)
				}
				last = place(l.Mark)
			}
			if c.Intn(20) == 0 {
				f, _ = follow.New(usual, most, chunk, f.Mark(), d)
				row = append(row, "New")
			}
		}
	}
}

// P17.5: a follower that is made anew with another's mark answers the same lines with the same marks, if the inode is named still; else it lets go. Then both rest.
func TestMadeAnew(t *testing.T) {
	for seed := range int64(600) {
		c := chance(3000 + seed)
		d, most, chunk := simfs.New(), 1+c.Intn(6), 1+c.Intn(9)
		f, _ := follow.New(usual, most, chunk, api.Mark{}, d)
		var row []string
		for range 5 + c.Intn(60) {
			row = append(row, c.write(d))
			for range c.Intn(4) {
				f.Step(d)
				row = append(row, "Step")
			}
		}
		m := f.Mark()
		again, _ := follow.New(usual, most, chunk, m, d)
		named, rotated := inodeOf(d, usual.Name), inodeOf(d, usual.Rotated)
		if m.Inode != 0 && m.Inode != named && m.Inode != rotated {
			want := api.Mark{Serial: m.Serial, Loss: m.Loss}
			if want.Loss.Gone++; again.Mark() != want {
				t.Fatalf("%q: %v, want %v", row, again.Mark(), want)
			}
			continue
		}
		const enough = 1000
		if got, want := linesOf(again, d, enough), linesOf(f, d, enough); !slices.Equal(got, want) {
			t.Fatalf("%q, anew with %v: %v, want %v", row, m, got, want)
		}
		end, held := f.Mark(), f.Held()
		if again.Mark() != end || again.Held() != held {
			t.Fatalf("%q, anew with %v: %v, %d at the end, want %v, %d", row, m, again.Mark(), again.Held(), end, held)
		}
		if more := linesOf(f, d, enough); len(more) > 0 || f.Mark() != end || f.Held() != held {
			t.Fatalf("%q: no rest: %v, then %v", row, more, f.Mark())
		}
	}
}

// inodeOf is the inode that a name has, 0 if none.
func inodeOf(d *simfs.Disk, name string) int {
	s, _ := d.Stat(name)
	return s.Inode
}

// wholeLines is the lines of a text cut at its newlines: those of at most so many bytes with their marks, and how many are longer.
func wholeLines(text string, most int) (list []api.Line, long int) {
	start := 0
	for _, piece := range strings.SplitAfter(text, "\n") {
		line, whole := strings.CutSuffix(piece, "\n")
		switch {
		case !whole:
		case len(line) > most:
			long++
		default:
			list = append(list, api.Line{Mark: with(at(1, 1, 0, start), api.Loss{Long: long}), Text: line})
		}
		start += len(piece)
	}
	return list, long
}

// P17.5: of a file that is only appended to every whole line is answered, or counted by Long, however the appends and the steps lie, over a rotation, and by followers that are made anew.
func TestOnlyAppended(t *testing.T) {
	for seed := range int64(300) {
		c := chance(4000 + seed)
		d, most, chunk := simfs.New(), 1+c.Intn(6), 1+c.Intn(9)
		name, text := "a", ""
		d.Create(name)
		f, _ := follow.New(usual, most, chunk, api.Mark{}, d)
		var got []api.Line
		for range c.Intn(60) {
			more := c.text()
			text += more
			d.Append(name, []byte(more))
			got = append(got, linesOf(f, d, c.Intn(6))...)
			if f.Mark().Inode == 1 && c.Intn(20) == 0 {
				d.Rename(name, "a.1")
				name = "a.1"
			}
			if c.Intn(20) == 0 {
				f, _ = follow.New(usual, most, chunk, f.Mark(), d)
			}
		}
		got = append(got, linesOf(f, d, 1000)...)
		want, long := wholeLines(text, most)
		if !slices.Equal(got, want) || f.Mark().Loss != (api.Loss{Long: long}) {
			t.Fatalf("seed %d, %q: %v and %v, want %v and %d too long", seed, text, got, f.Mark().Loss, want, long)
		}
	}
}

// W5: several followers at once on one disk, which none of them changes, tell what one tells alone.
func TestFollowersAtOnce(t *testing.T) {
	c := chance(5)
	d := simfs.New()
	for range 200 {
		c.write(d)
	}
	d.Create("a")
	d.Append("a", []byte("1\n22\n333\n4444\n55555\n666666\n7777777\n"))
	alone, _ := follow.New(usual, 5, 4, api.Mark{}, d)
	want := linesOf(alone, d, 500)
	var all sync.WaitGroup
	for range 8 {
		all.Go(func() {
			f, _ := follow.New(usual, 5, 4, api.Mark{}, d)
			if got := linesOf(f, d, 500); !slices.Equal(got, want) || len(got) < 5 || f.Mark() != alone.Mark() {
				t.Errorf("%v and %v, want %v and %v", got, f.Mark(), want, alone.Mark())
			}
		})
	}
	all.Wait()
}

// W1: a file of the greatest length, byte by byte; a name with very many arrivals; a great number of generations: all ends soon.
func TestMany(t *testing.T) {
	done := make(chan string)
	go func() { done <- manySteps() + manyArrivals() }()
	select {
	case fault := <-done:
		if fault != "" {
			t.Fatal(fault)
		}
	case <-time.After(60 * time.Second):
		t.Fatal("it doesn't end soon")
	}
}

// manySteps tells what is wrong with a follower that reads a great file byte by byte.
func manySteps() string {
	d := simfs.New()
	d.Create("a")
	line := strings.Repeat("y", api.MaxLine)
	const count = api.MaxFile / (2*api.MaxLine + 3)
	for range count {
		d.Append("a", []byte(line+"\n"+line+"z\n"))
	}
	f, _ := follow.New(usual, api.MaxLine, 1, api.Mark{}, d)
	told := linesOf(f, d, api.MaxFile+2)
	if len(told) != count || f.Mark() != with(at(1, 1, 0, count*(2*api.MaxLine+3)), api.Loss{Long: count}) {
		return fmt.Sprintf("%d lines, %v", len(told), f.Mark())
	}
	for i, l := range told {
		if l.Text != line || l.Mark.Off != i*(2*api.MaxLine+3) {
			return fmt.Sprintf("line %d at %v", i, l.Mark)
		}
	}
	return ""
}

// manyArrivals tells what is wrong with a follower of a path that is rotated and cut again and again.
func manyArrivals() string {
	d := simfs.New()
	f, _ := follow.New(usual, 5, 4, api.Mark{}, d)
	const count = 100000
	for i := range count {
		d.Create("a")
		d.Append("a", []byte("1\n2"))
		f.Step(d)
		l, whole := f.Step(d)
		if !whole || l.Text != "1" || place(l.Mark)[0] != i+1 {
			return fmt.Sprintf("arrival %d: %v", i, l)
		}
		f.Step(d)
		d.Rename("a", "a.1")
	}
	d.Create("a")
	for range count {
		d.Append("a", []byte("x"))
		d.Cut("a")
	}
	f.Step(d)
	if want := with(at(count+1, count+1, count, 0), api.Loss{Tails: count}); f.Mark() != want {
		return fmt.Sprintf("%v, want %v", f.Mark(), want)
	}
	return ""
}
