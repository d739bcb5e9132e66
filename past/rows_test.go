package past_test

import (
	"cmp"
	"fmt"
	"slices"
	"strings"
	"sync"
	"testing"
	"time"

	"heron/past"
	"heron/simfs"
)

// step is something that is done to a disk, or a showing of it.
type step struct {
	what string
	do   func(d *simfs.Disk)
}

// steps is a few of every kind; the one without a deed is a showing.
func steps() []step {
	return []step{
		{"see", nil},
		{"create a", func(d *simfs.Disk) { d.Create("a") }},
		{"append a", func(d *simfs.Disk) { d.Append("a", []byte("x\n\ny")) }},
		{"append b", func(d *simfs.Disk) { d.Append("b", []byte("\n")) }},
		{"cut a", func(d *simfs.Disk) { d.Cut("a") }},
		{"rename a b", func(d *simfs.Disk) { d.Rename("a", "b") }},
		{"rename b a", func(d *simfs.Disk) { d.Rename("b", "a") }},
		{"remove a", func(d *simfs.Disk) { d.Remove("a") }},
		{"crash 2", func(d *simfs.Disk) { d.Crash([]int{2}) }},
	}
}

// goOn does every row of so many steps, each from its beginning on, and holds what a past tells behind it against the chapter's words.
func goOn(t *testing.T, ahead []step, row []int, left int) {
	t.Helper()
	if left > 0 {
		for i := range steps() {
			goOn(t, ahead, append(row[:len(row):len(row)], i), left-1)
		}
		return
	}
	d, p, s := simfs.New(), past.New(), &slowPast{}
	var what []string
	do := func(x step) {
		what = append(what, x.what)
		if x.do != nil {
			x.do(d)
			return
		}
		p.See(d)
		s.See(d)
	}
	for _, x := range ahead {
		do(x)
	}
	for _, i := range row {
		do(steps()[i])
	}
	do(steps()[0])
	if got, want := told(p, 4, "a", "b"), told(s, 4, "a", "b"); got != want {
		t.Fatalf("%q: %s, want %s", what, got, want)
	}
}

// P15.1 to P15.4: every short row of events and showings against the chapter's words done slowly, on a new disk and on one with files.
func TestShortRows(t *testing.T) {
	goOn(t, nil, nil, 5)
	goOn(t, []step{
		{"create a, append a", func(d *simfs.Disk) { d.Create("a"); d.Append("a", []byte("p\nq")) }},
		{"create b", func(d *simfs.Disk) { d.Create("b") }},
		{"see", nil},
	}, nil, 4)
}

// sameStood holds Stood of every place and every piece of what stands in each file against the chapter's words.
func sameStood(t *testing.T, d *simfs.Disk, p *past.Past, s *slowPast, row []string) {
	t.Helper()
	for _, name := range d.Names() {
		stat, _ := d.Stat(name)
		b, _ := d.Read(stat.Inode, stat.Gen, 0, min(stat.Size, 12))
		lines := pieces(string(b))
		for gen := range stat.Gen + 2 {
			got, want := standing(p, stat.Inode, gen, len(b), lines), standing(s, stat.Inode, gen, len(b), lines)
			if got != want {
				t.Fatalf("%q: inode %d, generation %d: %s, want %s", row, stat.Inode, gen, got, want)
			}
		}
	}
}

// P15.1 to P15.4: long rows of events by chance, shown now and then, by the disk or by a copy of it.
func TestRowsByChance(t *testing.T) {
	for seed := range int64(60) {
		c := chance(seed)
		d, p, s := simfs.New(), past.New(), &slowPast{}
		var row []string
		for range 120 {
			row = append(row, c.write(d))
			if c.Intn(3) > 0 {
				continue
			}
			row = append(row, "See")
			p.See([]*simfs.Disk{d, d.Copy()}[c.Intn(2)])
			s.See(d)
			if got, want := told(p, 40, fewNames()...), told(s, 40, fewNames()...); got != want {
				t.Fatalf("%q: %s, want %s", row, got, want)
			}
		}
		sameStood(t, d, p, s, row)
	}
}

// known is what a past has told so far: each line with its place, each name's arrivals, each inode's generations.
type known struct {
	lines    map[[2]int][]string
	places   map[[2]int][]int
	arrivals map[string][]int
	gens     map[int]int
}

// look asks of a past that it has taken nothing away, as P15.5 says, and remembers what it tells.
func (k *known) look(t *testing.T, p *past.Past, highest int, row []string) {
	t.Helper()
	for _, name := range fewNames() {
		a := p.Arrivals(name)
		if was := k.arrivals[name]; len(a) < len(was) || !slices.Equal(a[:len(was)], was) {
			t.Fatalf("%q: arrivals of %q: %v behind %v", row, name, a, was)
		}
		k.arrivals[name] = a
	}
	for inode := range highest + 1 {
		gens := p.Gens(inode)
		if gens < k.gens[inode] {
			t.Fatalf("%q: generations of inode %d: %d behind %d", row, inode, gens, k.gens[inode])
		}
		k.gens[inode] = gens
		for gen := range gens {
			k.lookAt(t, p, inode, gen, row)
		}
	}
}

// lookAt is look of one generation.
func (k *known) lookAt(t *testing.T, p *past.Past, inode, gen int, row []string) {
	t.Helper()
	key := [2]int{inode, gen}
	lines, places := p.Lines(inode, gen)
	n := len(k.lines[key])
	if len(lines) < n || len(places) != len(lines) || !slices.Equal(lines[:n], k.lines[key]) || !slices.Equal(places[:n], k.places[key]) {
		t.Fatalf("%q: lines of %v: %q %v behind %q %v", row, key, lines, places, k.lines[key], k.places[key])
	}
	for i := range lines {
		if !p.Stood(inode, gen, places[i], lines[i]) || i > 0 && places[i] != places[i-1]+len(lines[i-1])+1 {
			t.Fatalf("%q: lines of %v: %q %v, of which the %d-th", row, key, lines, places, i)
		}
	}
	k.lines[key], k.places[key] = lines, places
}

// P15.5: along long rows by chance nothing is taken away, and what is shown behind each change is known for ever.
func TestFollows(t *testing.T) {
	for seed := range int64(60) {
		c := chance(1000 + seed)
		d, p := simfs.New(), past.New()
		k := &known{lines: map[[2]int][]string{}, places: map[[2]int][]int{}, arrivals: map[string][]int{}, gens: map[int]int{}}
		ever := map[[3]int]string{} // each line that ever was whole, by its inode, generation and place
		var row []string
		for range 150 {
			row = append(row, c.write(d))
			p.See(d)
			k.look(t, p, 40, row)
			for _, name := range d.Names() {
				s, _ := d.Stat(name)
				b, _ := d.Read(s.Inode, s.Gen, 0, s.Size)
				from := 0
				for i := range b {
					if b[i] == '\n' {
						ever[[3]int{s.Inode, s.Gen, from}] = string(b[from:i])
						from = i + 1
					}
				}
			}
		}
		for at, line := range ever {
			if !p.Stood(at[0], at[1], at[2], line) || p.Stood(at[0], at[1], at[2], line+"x") {
				t.Fatalf("%q: %q at %v", row, line, at)
			}
		}
		told := 0
		for _, lines := range k.lines {
			told += len(lines)
		}
		if told != len(ever) {
			t.Fatalf("%q: %d lines are told, %d were whole", row, told, len(ever))
		}
	}
}

// W5: a past may be asked by several goroutines, and several pasts may be shown a disk at once: what is asked changes nothing.
func TestAskedAtOnce(t *testing.T) {
	c := chance(5)
	d, p := simfs.New(), past.New()
	for range 300 {
		c.write(d)
		p.See(d)
	}
	want := told(p, 80, fewNames()...)
	first := past.New()
	first.See(d)
	once := told(first, 80, fewNames()...)
	var all sync.WaitGroup
	for range 4 {
		all.Go(func() {
			if got := told(p, 80, fewNames()...); got != want {
				t.Errorf("%s, want %s", got, want)
			}
		})
		all.Go(func() {
			other := past.New()
			other.See(d)
			if got := told(other, 80, fewNames()...); got != once {
				t.Errorf("%s, want %s", got, once)
			}
		})
	}
	all.Wait()
}

// W1: a file of the greatest length that is shown at each of many steps, and asked line by line; many generations and many names.
func TestMany(t *testing.T) {
	done := make(chan string)
	go func() { done <- cmp.Or(manyLines(), manyGenerations()) }()
	select {
	case fault := <-done:
		if fault != "" {
			t.Fatal(fault)
		}
	case <-time.After(60 * time.Second):
		t.Fatal("it doesn't end soon")
	}
}

// manyLines tells what is wrong with a past of a great file.
func manyLines() string {
	d, p := simfs.New(), past.New()
	d.Create("a")
	const count = 1 << 17
	for range count {
		d.Append("a", []byte("seven..\n"))
		p.See(d)
	}
	lines, places := p.Lines(1, 0)
	if len(lines) != count || len(places) != count {
		return fmt.Sprintf("%d lines, %d places", len(lines), len(places))
	}
	for i := range count {
		if lines[i] != "seven.." || places[i] != 8*i || !p.Stood(1, 0, 8*i, "seven..") || p.Stood(1, 0, 8*i+1, "even..") {
			return fmt.Sprintf("line %d: %q at %d", i, lines[i], places[i])
		}
	}
	return ""
}

// manyGenerations tells what is wrong with a past of a file that is cut again and again and has many names.
func manyGenerations() string {
	d, p := simfs.New(), past.New()
	d.Create("a")
	const count = 50000
	for i := range count {
		d.Append("a", []byte(strings.Repeat("x", i%7)+"\n"))
		p.See(d)
		d.Cut("a")
		other := fmt.Sprint("f", i%100)
		d.Rename("a", other)
		p.See(d)
		d.Rename(other, "a")
	}
	if p.Gens(1) != count+1 || len(p.Arrivals("a")) != count || len(p.Arrivals("f7")) != count/100 {
		return fmt.Sprintf("%d generations, %d and %d arrivals", p.Gens(1), len(p.Arrivals("a")), len(p.Arrivals("f7")))
	}
	for i := range count {
		if lines, places := p.Lines(1, i); len(lines) != 1 || len(lines[0]) != i%7 || !slices.Equal(places, []int{0}) {
			return fmt.Sprintf("generation %d: %q %v", i, lines, places)
		}
	}
	return ""
}
