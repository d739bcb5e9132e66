package follow_test

import (
	"runtime"
	"strings"
	"testing"
	"weak"

	"heron/api"
	"heron/follow"
	"heron/simfs"
)

// P17.4: nothing of a disk is kept, neither of New's nor of a Step's: both go with their last user.
func TestKeepsNoDisk(t *testing.T) {
	first, second := simfs.New(), simfs.New()
	for _, d := range []*simfs.Disk{first, second} {
		d.Create("a")
		d.Append("a", []byte("1\n23"))
	}
	f, _ := follow.New(usual, 5, 4, at(1, 1, 0, 2), first)
	f.Step(second)
	kept := []weak.Pointer[simfs.Disk]{weak.Make(first), weak.Make(second)}
	first, second = nil, nil
	for range 3 {
		runtime.GC()
	}
	for i, d := range kept {
		if d.Value() != nil {
			t.Errorf("disk %d is kept", i)
		}
	}
	if f.Mark() != at(1, 1, 0, 2) || f.Held() != 2 {
		t.Errorf("%v, %d", f.Mark(), f.Held())
	}
}

// P17.4: New's disk may go on, or go; the steps' own disk is the one that is read.
func TestNewsDisk(t *testing.T) {
	x := fresh(t, 5, 4)
	x.writes("create a", `append a 1\2\`)
	x.anew(5, 4, at(1, 1, 0, 2))
	older := x.d.Copy()
	x.writes("remove a", "create a", "append a other")
	x.d = older
	x.line("2", 4)
	x.rests()
	x.d = simfs.New()
	x.step(with(at(1, 0, 0, 0), api.Loss{Gone: 1}), 0)
	x.rests()
}

// P17.4: an older disk, with fewer bytes of the same generation, or in an older generation.
func TestOlderDisk(t *testing.T) {
	x := fresh(t, 9, 9)
	x.writes("create a", `append a 1\`)
	older := x.d.Copy()
	x.writes(`append a 2\34`)
	newer := x.d.Copy()
	x.step(at(1, 1, 0, 0), 0)
	x.line("1", 2)
	x.line("2", 4)
	x.step(at(1, 1, 0, 4), 2)
	x.d = older
	x.rests()
	x.d = newer
	x.writes(`append a 5\`)
	x.line("345", 8)
	x.writes("cut a")
	x.step(with(at(1, 1, 1, 0), api.Loss{Cuts: 1}), 0)
	x.d = older
	x.step(with(at(1, 1, 0, 0), api.Loss{Cuts: 1}), 0)
	x.line("1", 2)
}

// W3: a path's name is not kept with the text that it was cut out of.
func TestKeepsNoText(t *testing.T) {
	const size = 1 << 26
	text := strings.Repeat("name\n", size/5)
	d := simfs.New()
	f, _ := follow.New(api.Path{Name: text[5:9], Rotated: text[10:14]}, 5, 4, api.Mark{}, d)
	text = ""
	if n := inUse(); n > size/2 {
		t.Errorf("%d bytes are in use", n)
	}
	d.Create("name")
	f.Step(d)
	if f.Mark() != at(1, 1, 0, 0) {
		t.Errorf("%v", f.Mark())
	}
}

// inUse is how many bytes of memory are used, once all that may go is gone.
func inUse() uint64 {
	runtime.GC()
	runtime.GC()
	var m runtime.MemStats
	runtime.ReadMemStats(&m)
	return m.HeapAlloc
}

// W3: lines that were answered stay as they were, whatever is read behind them or done to the disk.
func TestLinesStay(t *testing.T) {
	d := simfs.New()
	d.Create("a")
	d.Append("a", []byte("one\ntwo\nthree\nfour\n"))
	f, _ := follow.New(usual, 5, 2, api.Mark{}, d)
	told := linesOf(f, d, 100)
	d.Cut("a")
	d.Append("a", []byte("ONE\nTWO\nTHREE\nFOUR\n"))
	linesOf(f, d, 100)
	for i, want := range []string{"one", "two", "three", "four"} {
		if told[i].Text != want || told[i].Mark.Gen != 0 {
			t.Errorf("line %d is %v now", i, told[i])
		}
	}
}
