package subset_test

import (
	"fmt"
	"math"
	"slices"
	"strings"
	"sync"
	"testing"
	"time"

	"heron/api"
	"heron/ere"
	"heron/nfa"
	"heron/part"
	"heron/sim"
	"heron/subset"
)

// bytesOf is the Set of some bytes.
func bytesOf(bytes string) api.Set {
	var a api.Set
	for i := range len(bytes) {
		a[bytes[i]/64] |= 1 << (bytes[i] % 64)
	}
	return a
}

// bytesBut is the Set of all bytes but some: the newline too.
func bytesBut(bytes string) api.Set {
	a := bytesOf(bytes)
	for i := range a {
		a[i] = ^a[i]
	}
	return a
}

func free(from, to int) api.Edge  { return api.Edge{Kind: api.EdgeFree, From: from, To: to} }
func begin(from, to int) api.Edge { return api.Edge{Kind: api.EdgeBegin, From: from, To: to} }
func end(from, to int) api.Edge   { return api.Edge{Kind: api.EdgeEnd, From: from, To: to} }

func takes(bytes string, from, to int) api.Edge { return takesSet(bytesOf(bytes), from, to) }

func takesSet(bytes api.Set, from, to int) api.Edge {
	return api.Edge{Kind: api.EdgeByte, From: from, To: to, Set: bytes}
}

// machine is a machine of some words, a state for each, and edges.
func machine(rules []uint32, edges ...api.Edge) api.NFA {
	return api.NFA{States: len(rules), Edges: edges, Rules: rules}
}

// copied is a machine that shares nothing with the one that it is a copy of.
func copied(m api.NFA) api.NFA {
	return api.NFA{States: m.States, Edges: slices.Clone(m.Edges), Rules: slices.Clone(m.Rules)}
}

// tell is a machine as text, cut short.
func tell(m api.NFA) string { return fmt.Sprintf("%.400s", fmt.Sprint(m)) }

// sameMachine tells whether two machines are the same.
func sameMachine(a, b api.NFA) bool {
	return a.States == b.States && slices.Equal(a.Edges, b.Edges) && slices.Equal(a.Rules, b.Rules)
}

// rule is the machine of a pattern with a rule's number.
func rule(t *testing.T, p string, k int) api.NFA {
	t.Helper()
	n, at, e := ere.Parse(p)
	m, f := nfa.Build(n, k)
	if e != api.OK || f != api.OK {
		t.Fatalf("a machine of %q: %d at %d, %d", p, e, at, f)
	}
	return m
}

// pattern is the machine of a pattern, with the rule 0.
func pattern(t *testing.T, p string) api.NFA { t.Helper(); return rule(t, p, 0) }

// united is the union of the machines of patterns, pattern k with the rule k.
func united(t *testing.T, patterns ...string) api.NFA {
	t.Helper()
	var list []api.NFA
	for k, p := range patterns {
		list = append(list, rule(t, p, k))
	}
	m, e := nfa.Union(list...)
	if e != api.OK {
		t.Fatalf("Union: %d", e)
	}
	return m
}

// built is the table of a machine.
func built(t *testing.T, m api.NFA, states int) api.DFA {
	t.Helper()
	d, e := subset.Build(m, states)
	if e != api.OK {
		t.Fatalf("Build(%s, %d): %d", tell(m), states, e)
	}
	return d
}

// wantTable asks for a machine's table but for its classes.
func wantTable(t *testing.T, m api.NFA, states int, want string) api.DFA {
	t.Helper()
	d := built(t, m, states)
	if got := tableText(d); got != want {
		t.Errorf("Build(%s, %d) = %s, want %s", tell(m), states, got, want)
	}
	return d
}

// wantRefused asks for a table that there is none of.
func wantRefused(t *testing.T, m api.NFA, states int, want api.Errno) {
	t.Helper()
	if d, e := subset.Build(m, states); !sameTable(d, api.DFA{}) || e != want {
		t.Errorf("Build(%s, %d) = %.200s, %d, want %d", tell(m), states, tableText(d), e, want)
	}
}

// wantSlow asks for a machine's table as the chapter says it, with just as many states as there are moments, with one fewer, with as many as may be.
func wantSlow(t *testing.T, m api.NFA) api.DFA {
	t.Helper()
	want, _, e := slowBuild(m, api.MaxStates)
	if e != api.OK {
		t.Fatalf("%s has too many moments", tell(m))
	}
	for _, states := range []int{len(want.Next), len(want.Next) + 1, api.MaxStates, math.MaxInt} {
		if d, e := subset.Build(m, states); !sameTable(d, want) || e != api.OK {
			t.Fatalf("Build(%s, %d) = %.400s, %d, want %.400s", tell(m), states, tableText(d), e, tableText(want))
		}
	}
	wantRefused(t, m, len(want.Next)-1, api.ErrCap)
	return want
}

// wantRun asks what a table's run over a line meets.
func wantRun(t *testing.T, d api.DFA, line string, want uint32) {
	t.Helper()
	if got, e := subset.Run(d, line); got != want || e != api.OK {
		t.Errorf("Run(%.400s, %.60q) = %d, %d, want %d", tableText(d), line, got, e, want)
	}
}

// wantLine asks for what sim tells of a line.
func wantLine(t *testing.T, m api.NFA, d api.DFA, line string) {
	t.Helper()
	want, e := sim.Line(m, line)
	if got, f := subset.Run(d, line); got != want || e != api.OK || f != api.OK {
		t.Fatalf("Run of the table of %s over %.60q = %d, %d, sim.Line %d, %d", tell(m), line, got, f, want, e)
	}
}

// lines calls a function with each line of at most so many of some bytes.
func lines(bytes string, most int, with func(line string)) {
	var more func(line string)
	more = func(line string) {
		with(line)
		for i := range len(bytes) {
			if len(line) < most {
				more(line + bytes[i:i+1])
			}
		}
	}
	more("")
}

// anchored is patterns with beginnings, ends and empty pieces in them.
func anchored() []string {
	return []string{
		"", "a", "^a", "a$", "^a$", "^", "$", "^$", "$^", "a^", "$a", "a^b", "a$b", "(^|a)b", "b(a|$)", "(^a|b$){2}", "(^$|ab)+", "($|^)*", "(^)*a", "($a)*b", "(^a)*b", "(a$|^){2}", "(a|$){3}", "a*$", "^a*",
		"ab|ba", "(a|b)*b$", "^(ab?)*$", "a{2,3}", "[^a]", ".b", "^.$", ".", "^[^a]", "((a?){3}b){2}", "(a{0}b){1,2}$", "a+b+a+", "b{3,}", "^(a|b){0,2}$", "(^.a|b.$)", "()", "(|a)", "a{0}", "(^(a|b)|b(^|$)|$a)*b?$",
	}
}

// P10.1, P10.3: the chapter's examples.
func TestExamples(t *testing.T) {
	a := "Next 0: 0 1; Next 1: 2 1; Next 2: 2 1; Found 0 1 1; Ends 0 1 1"
	for _, states := range []int{3, 9} {
		d := wantTable(t, pattern(t, "a"), states, a)
		for b, c := range d.Class {
			if (c == 1) != (b == 'a') || c != 0 && c != 1 {
				t.Errorf("the class of %d is %d", b, c)
			}
		}
		wantRun(t, d, "xax", 1)
		wantRun(t, d, "x", 0)
		wantRun(t, d, "", 0)
	}
	wantRefused(t, pattern(t, "a"), 2, api.ErrCap)
	if d := wantTable(t, pattern(t, ""), 1, "Next 0: 0; Found 1; Ends 1"); d.Class != [256]int{} {
		t.Errorf("more than one class: %v", d.Class)
	}
	wantRefused(t, pattern(t, ""), 0, api.ErrCap)
	wantTable(t, pattern(t, "^a"), 9, "Next 0: 1 2; Next 1: 1 1; Next 2: 3 3; Next 3: 3 3; Found 0 0 1 1; Ends 0 0 1 1")
	wantTable(t, pattern(t, "a$"), 9, "Next 0: 0 1; Next 1: 0 1; Found 0 0; Ends 0 1")
	if got, e := subset.Run(api.DFA{}, ""); got != 0 || e != api.ErrMachine {
		t.Errorf("Run of the zero table: %d, %d", got, e)
	}
}

// P10.1: machines that don't fit, each way, whatever states is: that error comes first.
func TestWrongMachines(t *testing.T) {
	wrong := []api.NFA{
		{}, {States: 1}, {States: 0, Rules: []uint32{}, Edges: []api.Edge{}}, {States: 2, Rules: []uint32{1}}, {States: 2, Rules: []uint32{1, 1, 1}}, {States: math.MaxInt}, {States: math.MinInt}, {States: -1},
		{States: 1, Rules: []uint32{1, 1}}, {States: math.MaxInt, Rules: []uint32{1}},
	}
	edges := []api.Edge{
		{Kind: 0}, {Kind: -1}, {Kind: 5}, {Kind: 64}, {Kind: math.MaxInt}, {Kind: math.MinInt},
		{Kind: api.EdgeFree, Set: bytesOf("\x00")}, {Kind: api.EdgeBegin, Set: bytesOf("\xff")}, {Kind: api.EdgeEnd, Set: bytesOf("\n")},
	}
	for kind := 1; kind <= 4; kind++ {
		for _, s := range []int{math.MinInt, -1, 2, 3, math.MaxInt} {
			edges = append(edges, api.Edge{Kind: kind, From: s}, api.Edge{Kind: kind, To: s})
		}
	}
	for _, e := range edges {
		for at := range 3 { // wherever it stands
			wrong = append(wrong, machine([]uint32{1, 1}, slices.Insert([]api.Edge{free(0, 1), takes("a", 1, 0)}, at, e)...))
		}
	}
	for _, m := range wrong {
		for _, states := range []int{math.MinInt, -1, 0, 1, 9, api.MaxStates, math.MaxInt} {
			wantRefused(t, m, states, api.ErrMachine)
		}
	}
}

// P10.1: how many states are allowed: none, fewer than none, one fewer than there are moments, just as many, more than may be.
func TestCap(t *testing.T) {
	for p, moments := range map[string]int{"": 1, "()": 1, "$": 1, "a^": 2, "a$": 2, "a": 3, "^a": 4, "^$": 2, "^a$": 3, "ab": 5, ".": 3, "^.": 4} {
		m := pattern(t, p)
		for _, states := range []int{math.MinInt, -api.MaxStates, -1, 0, 1, moments - 1} {
			if states < moments {
				wantRefused(t, m, states, api.ErrCap)
			}
		}
		one := built(t, m, moments)
		if len(one.Next) != moments {
			t.Errorf("%q: %d states, want %d", p, len(one.Next), moments)
		}
		for _, states := range []int{moments, moments + 1, api.MaxStates - 1, api.MaxStates, api.MaxStates + 1, 1 << 40, math.MaxInt} { // P10.4: and the table is the same
			if d := built(t, m, states); !sameTable(d, one) {
				t.Errorf("%q with %d states: %s, want %s", p, states, tableText(d), tableText(one))
			}
		}
	}
}

// chain is a machine with so many moments (2 or more): one at the beginning, one behind each of so many a's, and one behind all else.
func chain(moments int) api.NFA {
	m := api.NFA{States: moments, Edges: []api.Edge{begin(0, 1)}, Rules: make([]uint32, moments)}
	for s := 2; s < moments; s++ {
		m.Edges = append(m.Edges, takes("a", s-1, s))
	}
	return m
}

// P10.1: machines with just MaxStates moments, and with one more.
func TestMaxStates(t *testing.T) {
	for _, moments := range []int{2, 3, 10, api.MaxStates - 1, api.MaxStates} {
		d := built(t, chain(moments), moments)
		want := api.DFA{Class: [256]int{'a': 1}, Next: [][]int{{1, 2}, {1, 1}}, Found: make([]uint32, moments), Ends: make([]uint32, moments)}
		for s := 2; s < moments-1; s++ { // state 1 is that behind all else, since it is met first
			want.Next = append(want.Next, []int{1, s + 1})
		}
		if moments > 2 {
			want.Next = append(want.Next, []int{1, 1})
		} else { // no edge takes a byte
			want.Class, want.Next = [256]int{}, [][]int{{1}, {1}}
		}
		if !sameTable(d, want) || !subset.Right(d) {
			t.Errorf("%d moments: %.400s, want %.400s", moments, tableText(d), tableText(want))
		}
		wantRefused(t, chain(moments), moments-1, api.ErrCap)
		for _, states := range []int{api.MaxStates, api.MaxStates + 1, math.MaxInt} {
			if more := built(t, chain(moments), states); !sameTable(more, d) {
				t.Errorf("%d moments, %d states: another table", moments, states)
			}
		}
	}
	for _, moments := range []int{api.MaxStates + 1, api.MaxStates + 2, 3 * api.MaxStates} {
		for _, states := range []int{-1, 0, 1, api.MaxStates - 1, api.MaxStates, api.MaxStates + 1, moments, moments + 1, math.MaxInt} {
			wantRefused(t, chain(moments), states, api.ErrCap)
		}
	}
	for k := 1; k <= 14; k++ { // which of the last k bytes was an 'a': 2^k of them
		states := 1 << k
		m := machine(make([]uint32, k+1), takes("a", 0, 1))
		for s := 1; s < k; s++ {
			m.Edges = append(m.Edges, takesSet(bytesBut(""), s, s+1))
		}
		if states > api.MaxStates {
			wantRefused(t, m, math.MaxInt, api.ErrCap)
			continue
		}
		if d := built(t, m, states); len(d.Next) != states || !subset.Right(d) {
			t.Errorf("%d states, want %d", len(d.Next), states)
		}
		wantRefused(t, m, states-1, api.ErrCap)
		m.Rules[k] = 1 // and once that is met there is a moment more for each
		if 2*states > api.MaxStates {
			wantRefused(t, m, math.MaxInt, api.ErrCap)
		} else {
			wantRefused(t, m, states, api.ErrCap)
		}
	}
}

// P10.1: a machine without an edge that takes a byte has one class, and so have those whose edges take none, or all.
func TestOneClass(t *testing.T) {
	none, all := bytesOf(""), bytesBut("")
	for _, c := range []struct {
		m    api.NFA
		want string
	}{
		{machine([]uint32{0}), "Next 0: 0; Found 0; Ends 0"},
		{machine([]uint32{math.MaxUint32}), "Next 0: 0; Found 4294967295; Ends 4294967295"},
		{machine([]uint32{5}, free(0, 0), begin(0, 0), end(0, 0)), "Next 0: 0; Found 5; Ends 5"},
		{machine([]uint32{0, 1, 2}, free(0, 1), free(1, 2), free(2, 0)), "Next 0: 0; Found 3; Ends 3"},
		{machine([]uint32{0, 1}, end(0, 1)), "Next 0: 0; Found 0; Ends 1"},
		{machine([]uint32{0, 1}, begin(0, 1)), "Next 0: 1; Next 1: 1; Found 1 1; Ends 1 1"},
		{machine([]uint32{0, 1}, takesSet(none, 0, 1)), "Next 0: 0; Found 0; Ends 0"},
		{machine([]uint32{0, 1}, takesSet(all, 0, 1)), "Next 0: 1; Next 1: 1; Found 0 1; Ends 0 1"},
		{machine([]uint32{0, 1}, takesSet(all, 0, 1), takesSet(none, 1, 1)), "Next 0: 1; Next 1: 1; Found 0 1; Ends 0 1"},
		{machine([]uint32{0, 1}), "Next 0: 0; Found 0; Ends 0"}, // a state that nothing leads to
	} {
		if d := wantTable(t, c.m, 9, c.want); d.Class != [256]int{} {
			t.Errorf("more than one class: %v", d.Class)
		}
		wantSlow(t, c.m)
	}
}

// eachByte is a machine with so many classes: each of the last bytes has one of its own and leads to a state of its own, all others have the class 0 and lead to none.
func eachByte(classes int) api.NFA {
	m := machine([]uint32{0})
	for c := 1; c < classes; c++ {
		b := byte(256 - classes + c)
		m.Edges = append(m.Edges, takes(string([]byte{b}), 0, c))
		m.Rules = append(m.Rules, 0)
		m.States++
	}
	return m
}

// P10.1: many classes, as many as there are bytes too: the byte that no edge has has one as well.
func TestManyClasses(t *testing.T) {
	for _, classes := range []int{2, 3, 64, 65, 128, 255, 256} {
		m := eachByte(classes)
		d := built(t, m, classes)
		for b, c := range d.Class {
			if want := max(0, b-(256-classes)); c != want {
				t.Errorf("%d classes: that of byte %d is %d", classes, b, c)
			}
		}
		for s, next := range d.Next {
			for c, to := range next {
				if to != c {
					t.Errorf("%d classes: state %d goes to %d by the class %d", classes, s, to, c)
				}
			}
		}
		if len(d.Next) != classes || len(d.Next[0]) != classes || !subset.Right(d) {
			t.Errorf("%d classes: %d states", classes, len(d.Next))
		}
		wantRefused(t, m, classes-1, api.ErrCap)
	}
	bits := machine(make([]uint32, 9)) // 256 classes by 8 sets: state k + 1 is that of the k-th bit
	for k := range 8 {
		var set api.Set
		for b := range 256 {
			if b>>k&1 == 1 {
				set[b/64] |= 1 << (b % 64)
			}
		}
		bits.Edges = append(bits.Edges, takesSet(set, 0, k+1))
		bits.Rules[k+1] = 1 << k
	}
	bits.Edges = append(bits.Edges, takes("\x00", 0, 0))
	d, e := subset.Build(bits, api.MaxStates)
	if e != api.ErrCap { // the last byte's bits and all bits so far: far more than there may be
		t.Errorf("%d states, %d", len(d.Next), e)
	}
	for k := range 8 {
		bits.Rules[k+1] = 0
	}
	d = built(t, bits, 256)
	for b := range 256 {
		if d.Class[b] != b || len(d.Next[b]) != 256 || d.Next[255][b] != b || d.Next[0][b] != b {
			t.Errorf("byte %d: class %d, from the last state to %d", b, d.Class[b], d.Next[255][b])
		}
	}
	wantRefused(t, bits, 255, api.ErrCap)
}

// P10.1: Class is that of part.Classes of part.Sets; whichever byte of a class comes, the state behind it is the same.
func TestClasses(t *testing.T) {
	c := chance(101)
	for range 300 {
		m := c.machine(1+c.Intn(9), 6)
		for k := range 3 { // and sets that no other edge has
			m.Edges = append(m.Edges, takesSet(api.Set{c.Uint64(), c.Uint64() & c.Uint64(), 0, c.Uint64() >> (k * 20)}, c.Intn(m.States), c.Intn(m.States)))
		}
		d, e := subset.Build(m, api.MaxStates)
		if e != api.OK {
			continue
		}
		class, count := part.Classes(part.Sets(m)...)
		if d.Class != class || len(d.Next[0]) != count {
			t.Fatalf("%v: classes %v, want %v", m, d.Class, class)
		}
		line := c.line(5)
		at := slowBegin(m)
		for i := range len(line) {
			at = slowBehind(m, at, line[i])
		}
		for b := range 256 {
			behind := slowBehind(m, at, byte(b))
			if got, e := subset.Run(d, line+string([]byte{byte(b)})); got != behind.end || e != api.OK {
				t.Fatalf("%v over %q and %d: %d, %d, want %d", m, line, b, got, e, behind.end)
			}
		}
	}
}

// P10.1: the tables of machines by chance and of patterns are those that the chapter's words make.
func TestSlow(t *testing.T) {
	for _, p := range anchored() {
		wantSlow(t, pattern(t, p))
		wantSlow(t, rule(t, p, 31))
	}
	wantSlow(t, united(t, "a", "^b", "b$", "^$", ""))
	c := chance(102)
	for k := range 2000 {
		m := c.machine(1+c.Intn(10+k%30), 3+k%17)
		if _, _, e := slowBuild(m, 120); e == api.OK {
			wantSlow(t, m)
		} else {
			wantRefused(t, m, 120, api.ErrCap)
		}
	}
}

// P10.1: two moments are one just if their States, their Rules and their Ends are the same.
func TestMomentsApart(t *testing.T) {
	// the beginning and the moment behind a byte have the same States and Rules, another End
	over := machine([]uint32{0, 0, 1}, end(0, 1), begin(1, 2))
	wantTable(t, over, 2, "Next 0: 1; Next 1: 1; Found 0 0; Ends 1 0")
	wantRefused(t, over, 1, api.ErrCap)
	wantTable(t, machine([]uint32{0, 1, 1}, end(0, 1), begin(1, 2)), 1, "Next 0: 0; Found 0; Ends 1") // no other End
	// the same States, other Rules
	wantTable(t, machine([]uint32{0, 1}, takes("a", 0, 1)), 3, "Next 0: 0 1; Next 1: 2 1; Next 2: 2 1; Found 0 1 1; Ends 0 1 1")
	wantTable(t, machine([]uint32{1, 1}, takes("a", 0, 1)), 2, "Next 0: 0 1; Next 1: 0 1; Found 1 1; Ends 1 1")
	// the same Rules and Ends, other States
	wantTable(t, machine([]uint32{0, 0}, takes("a", 0, 1)), 2, "Next 0: 0 1; Next 1: 0 1; Found 0 0; Ends 0 0")
	wantTable(t, machine([]uint32{0, 0}, begin(0, 1)), 2, "Next 0: 1; Next 1: 1; Found 0 0; Ends 0 0")
	// each of a word's bits is a bit of the moment
	for k := range 32 {
		for other := range 32 {
			two := machine([]uint32{0, 1 << k, 1 << other}, takes("a", 0, 1), takes("b", 0, 2))
			want := 8 // none met: 1; one alone: 2 each; both: 3
			if k == other {
				want = 4
			}
			if d := built(t, two, 9); len(d.Next) != want {
				t.Errorf("the rules %d and %d: %d states", k, other, len(d.Next))
			}
		}
		late := machine([]uint32{0, 0, 1 << k}, end(0, 1), begin(1, 2))
		wantTable(t, late, 2, fmt.Sprintf("Next 0: 1; Next 1: 1; Found 0 0; Ends %d 0", uint32(1)<<k))
	}
	// each state is one of the moment's
	for n := 1; n < 70; n++ {
		m := machine(make([]uint32, n+1))
		for s := 1; s <= n; s++ {
			m.Edges = append(m.Edges, takes(string([]byte{byte(s)}), 0, s))
		}
		if d := built(t, m, n+1); len(d.Next) != n+1 {
			t.Errorf("%d states, want %d", len(d.Next), n+1)
		}
	}
}

// walked is a walk behind some bytes, told by sim.
func walked(t *testing.T, m api.NFA, line string) moment {
	t.Helper()
	w, e := sim.Begin(m)
	if e != api.OK {
		t.Fatalf("Begin: %d", e)
	}
	for i := range len(line) {
		w.Byte(line[i])
	}
	return moment{w.States(), w.Rules(), w.End()}
}

// wantStates asks a machine's table whether each of its states is the moment that a line leads to: state 0 that of the beginning, the others numbered as they are met; no two the same; and whether it fits.
func wantStates(t *testing.T, m api.NFA, d api.DFA) {
	t.Helper()
	if !subset.Right(d) || !slowRight(d) {
		t.Fatalf("the table of %s doesn't fit: %.400s", tell(m), tableText(d))
	}
	var byteOf [256]byte
	for b := 255; b >= 0; b-- {
		byteOf[d.Class[b]] = byte(b)
	}
	leads := []string{""} // a line for each state
	moments := []moment{walked(t, m, "")}
	for s := 0; s < len(leads); s++ {
		if d.Found[s] != moments[s].rules || d.Ends[s] != moments[s].end {
			t.Fatalf("%s: state %d, behind %q: Found %d, Ends %d, want %v", tell(m), s, leads[s], d.Found[s], d.Ends[s], moments[s])
		}
		for c, to := range d.Next[s] {
			line := leads[s] + string([]byte{byteOf[c]})
			if to > len(leads) {
				t.Fatalf("%s: behind %q comes the state %d, of %d by then", tell(m), line, to, len(leads))
			}
			at := walked(t, m, line)
			if to == len(leads) {
				if slices.ContainsFunc(moments, func(old moment) bool { return sameMoment(at, old) }) {
					t.Fatalf("%s: behind %q is a state of its own, the moment isn't: %v", tell(m), line, at)
				}
				leads, moments = append(leads, line), append(moments, at)
			}
			if !sameMoment(at, moments[to]) {
				t.Fatalf("%s: behind %q the state %d, the moment %v", tell(m), line, to, at)
			}
		}
	}
	if len(leads) != len(d.Next) {
		t.Fatalf("%s: %d states, of which %d are met", tell(m), len(d.Next), len(leads))
	}
}

// P10.1, P10.4: what the states of a table are.
func TestStates(t *testing.T) {
	for _, p := range anchored() {
		m := pattern(t, p)
		wantStates(t, m, built(t, m, api.MaxStates))
	}
	m := united(t, "err|warn", "^$", "[0-9]{3}", "x$", "^x", "(^|a)b")
	wantStates(t, m, built(t, m, api.MaxStates))
	c := chance(103)
	for done := 0; done < 800; {
		m := c.machine(1+c.Intn(30), 20)
		if d, e := subset.Build(m, 200); e == api.OK {
			wantStates(t, m, d)
			done++
		}
	}
}

// P10.4: a table's run meets what sim.Line tells.
func TestRunsAsSim(t *testing.T) {
	for _, p := range anchored() {
		m := rule(t, p, len(p)%32)
		d := built(t, m, api.MaxStates)
		lines("ab\n", 5, func(line string) { wantLine(t, m, d, line) })
		wantLine(t, m, d, strings.Repeat("ab", 300))
	}
	c := chance(104)
	for done := 0; done < 1500; {
		m := c.machine(1+c.Intn(40), 20)
		d, e := subset.Build(m, 1000)
		if e != api.OK {
			continue
		}
		for range 12 {
			wantLine(t, m, d, c.line(12))
		}
		done++
	}
}

// P10.1, P10.4: unions with as many rules as there may be, each with its own bit.
func TestManyRules(t *testing.T) {
	const letters = "ABCDEFGHIJKLMNOPQRSTUVWXYZ012345"
	var ends, words []string
	for k := range api.MaxRules {
		ends = append(ends, fmt.Sprintf("^x{%d}$", k))
		words = append(words, fmt.Sprintf("^%c+y", letters[k]))
	}
	m := united(t, ends...)
	d := built(t, m, api.MaxStates)
	wantStates(t, m, d)
	for k := range api.MaxRules {
		wantRun(t, d, strings.Repeat("x", k), 1<<k)
		wantRun(t, d, strings.Repeat("x", k)+"y", 0)
	}
	wantRun(t, d, strings.Repeat("x", 32), 0)
	m = united(t, words...)
	d = built(t, m, api.MaxStates)
	for k := range api.MaxRules {
		word := strings.Repeat(letters[k:k+1], 1+k%3)
		wantRun(t, d, word+"y", 1<<k)
		wantRun(t, d, word+"yAy", 1<<k)
		wantRun(t, d, "-"+word+"y", 0)
		wantRun(t, d, word, 0)
	}
	logs := united(t, "err|warn", "^$", "[0-9]{3}")
	d = built(t, logs, 200)
	for line, want := range map[string]uint32{"an error 404": 5, "": 2, "warn": 1, "x 12 x": 0, "1234": 4, "warn404": 5, "\n": 0} {
		wantRun(t, d, line, want)
		wantLine(t, logs, d, line)
	}
	all := machine([]uint32{0, math.MaxUint32, math.MaxUint32}, takes("a", 0, 1), end(0, 2))
	wantTable(t, all, 3, "Next 0: 0 1; Next 1: 2 1; Next 2: 2 1; Found 0 4294967295 4294967295; Ends 4294967295 4294967295 4294967295")
}

// P10.4: what Found of a state tells is met by every line that goes through it.
func TestFoundIsMet(t *testing.T) {
	c := chance(105)
	for done := 0; done < 1500; {
		m := c.machine(1+c.Intn(20), 12)
		d, e := subset.Build(m, 500)
		if e != api.OK {
			continue
		}
		done++
		line := c.line(10)
		whole, _ := subset.Run(d, line)
		s := 0
		for i := range len(line) {
			s = d.Next[s][d.Class[line[i]]]
			if d.Found[s]&^whole != 0 {
				t.Fatalf("%v: %q goes through the state %d, which has met %d, and meets %d", m, line, s, d.Found[s], whole)
			}
			if here, _ := subset.Run(d, line[:i+1]); here != d.Ends[s] || d.Found[s]&^here != 0 {
				t.Fatalf("%v: %q meets %d, its state has Ends %d, Found %d", m, line[:i+1], here, d.Ends[s], d.Found[s])
			}
		}
	}
}

// fitting is a table that fits: two classes, three states.
func fitting() api.DFA {
	return api.DFA{Class: [256]int{'a': 1}, Next: [][]int{{0, 1}, {2, 1}, {2, 2}}, Found: []uint32{0, 1, 1 | 1<<31}, Ends: []uint32{4, 5, 3 | 1<<31}}
}

// wantRight asks whether a table fits, and Run about it.
func wantRight(t *testing.T, d api.DFA, want bool) {
	t.Helper()
	if got := subset.Right(d); got != want || slowRight(d) != want {
		t.Errorf("Right(%.200s, classes %.60s) = %v, want %v", tableText(d), fmt.Sprint(d.Class), got, want)
	}
	for _, line := range []string{"", "a", "\n", "\xffab"} {
		met, e := subset.Run(d, line)
		if !want && (met != 0 || e != api.ErrMachine) || want && (e != api.OK || met != slowRun(d, line)) {
			t.Errorf("Run(%.200s, %q) = %d, %d", tableText(d), line, met, e)
		}
	}
}

// P10.2, P10.3: each condition of a table that fits, broken by one.
func TestRight(t *testing.T) {
	wantRight(t, fitting(), true)
	wantRight(t, api.DFA{}, false)
	breaks := map[string]func(d *api.DFA){
		"no list":              func(d *api.DFA) { d.Next = nil },
		"no list, not nil":     func(d *api.DFA) { d.Next = [][]int{} },
		"nothing at all":       func(d *api.DFA) { d.Next, d.Found, d.Ends = nil, nil, nil },
		"a list more":          func(d *api.DFA) { d.Next = append(d.Next, []int{2, 2}) },
		"a list fewer":         func(d *api.DFA) { d.Next[0][0], d.Next[1][0], d.Next = 0, 1, d.Next[:2] },
		"lists without number": func(d *api.DFA) { d.Next = [][]int{{}, {}, {}}; d.Class['a'] = 0 },
		"nil lists":            func(d *api.DFA) { d.Next = [][]int{nil, nil, nil}; d.Class['a'] = 0 },
		"Found short":          func(d *api.DFA) { d.Found = d.Found[:2] },
		"Found long":           func(d *api.DFA) { d.Found = append(d.Found, 0) },
		"no Found":             func(d *api.DFA) { d.Found = nil },
		"Ends short":           func(d *api.DFA) { d.Ends = d.Ends[:2] },
		"Ends long":            func(d *api.DFA) { d.Ends = append(d.Ends, 0) },
		"no Ends":              func(d *api.DFA) { d.Ends = nil },
		"both short":           func(d *api.DFA) { d.Found, d.Ends = d.Found[:2], d.Ends[:2] },
		"a bit off in Ends":    func(d *api.DFA) { d.Ends[1] = 4 },
		"bit 31 off in Ends":   func(d *api.DFA) { d.Ends[2] = 3 },
		"a bit off behind":     func(d *api.DFA) { d.Found[2] = 1 << 31 },
		"a bit off, class 0":   func(d *api.DFA) { d.Next[1][0] = 0 },
		"a bit off, class 1":   func(d *api.DFA) { d.Next[1][1] = 0 },
		"bit 31 off behind":    func(d *api.DFA) { d.Next[2][1] = 1 },
		"off, no byte there":   func(d *api.DFA) { d.Class['a'] = 0; d.Next[1][1] = 0 },
		"a state not met":      func(d *api.DFA) { d.Next[0][1] = 0; d.Ends[1] = 0 },
	}
	for name, turn := range breaks {
		d := fitting()
		turn(&d)
		if subset.Right(d) {
			t.Errorf("%s: it fits", name)
		}
		wantRight(t, d, false)
	}
	for s := range 3 {
		for c := range 2 {
			for _, to := range []int{math.MinInt, -1, 3, 4, math.MaxInt} { // below 0, or from S on
				d := fitting()
				d.Next[s][c] = to
				wantRight(t, d, false)
			}
		}
		for _, list := range [][]int{nil, {2}, {2, 2, 2}} { // too short, too long
			d := fitting()
			d.Next[s] = list
			wantRight(t, d, false)
		}
	}
	for b := range 256 {
		for _, c := range []int{math.MinInt, -1, 2, 3, 256, math.MaxInt} { // below 0, or from C on
			d := fitting()
			d.Class[b] = c
			wantRight(t, d, false)
		}
		d := fitting()
		d.Class[b] = 1
		wantRight(t, d, true)
	}
	for bit := range 32 {
		d := api.DFA{Next: [][]int{{1}, {1}}, Found: []uint32{1 << bit, 1 << bit}, Ends: []uint32{1 << bit, 1 << bit}}
		wantRight(t, d, true)
		d.Found[1] = 0
		wantRight(t, d, false)
		d.Found[0] = 0
		wantRight(t, d, true)
		d.Found[1] = 1 << bit
		wantRight(t, d, true)
		d.Ends[1] = ^uint32(1 << bit)
		wantRight(t, d, false)
	}
}

// wide is a table of so many states and classes in which each state goes to the last one by the last class, else to itself.
func wide(states, classes int) api.DFA {
	d := api.DFA{Class: [256]int{'z': max(0, min(classes, 256)-1)}, Found: make([]uint32, states), Ends: make([]uint32, states)}
	for s := range states {
		next := slices.Repeat([]int{s}, classes)
		if classes > 0 {
			next[classes-1] = states - 1
		}
		d.Next = append(d.Next, next)
	}
	if states > 0 {
		d.Ends[states-1] = 7
	}
	return d
}

// P10.2: how many states and classes a table may have.
func TestRightSizes(t *testing.T) {
	for _, states := range []int{0, 1, 2, api.MaxStates - 1, api.MaxStates, api.MaxStates + 1, 2 * api.MaxStates} {
		wantRight(t, wide(states, 1), 1 <= states && states <= api.MaxStates)
		wantRight(t, wide(states, 3), 1 <= states && states <= api.MaxStates)
	}
	for _, classes := range []int{0, 1, 2, 255, 256, 257, 1000} {
		wantRight(t, wide(1, classes), 1 <= classes && classes <= 256)
		wantRight(t, wide(5, classes), 1 <= classes && classes <= 256)
	}
	most := wide(api.MaxStates, 256)
	wantRight(t, most, true)
	wantRun(t, most, "abz", 7)
	most.Next[api.MaxStates-1][255] = api.MaxStates
	wantRight(t, most, false)
}

// P10.2, P10.3: tables by chance, whole and with one number changed.
func TestRightByChance(t *testing.T) {
	c := chance(106)
	fits := 0
	for range 6000 {
		d := c.table(1+c.Intn(6), 1+c.Intn(5))
		wantRight(t, d, true)
		s := c.Intn(len(d.Next))
		number := []int{-1, 0, 1, len(d.Next) - 1, len(d.Next), len(d.Next[0]) - 1, len(d.Next[0]), c.Intn(300)}[c.Intn(8)]
		switch c.Intn(6) {
		case 0:
			d.Class[c.Intn(256)] = number
		case 1:
			d.Next[s][c.Intn(len(d.Next[s]))] = number
		case 2:
			d.Found[s] ^= 1 << c.Intn(32)
		case 3:
			d.Ends[s] ^= 1 << c.Intn(32)
		case 4:
			d.Next[s] = d.Next[s][:c.Intn(len(d.Next[s])+1)]
		case 5:
			d.Found, d.Ends = append(d.Found, 0)[:len(d.Found)+c.Intn(2)], append(d.Ends, 0)[:len(d.Ends)+c.Intn(2)]
		}
		if slowRight(d) {
			fits++
		}
		wantRight(t, d, slowRight(d))
	}
	if fits < 500 || fits > 5500 {
		t.Errorf("%d of the changed tables fit: the test tells too little", fits)
	}
}

// P10.3: a run goes over the empty line, over each byte, by bytes and not by runes, on from where it is.
func TestRun(t *testing.T) {
	d := fitting()
	for line, want := range map[string]uint32{"": 4, "a": 5, "b": 4, "\n": 4, "ab": 3 | 1<<31, "aa": 5, "ba": 5, "a\n": 3 | 1<<31, "abab": 3 | 1<<31, "bbbb": 4, strings.Repeat("b", 5000) + "a": 5} {
		wantRun(t, d, line, want)
	}
	var each api.DFA // state b + 1 is that behind the byte b
	for b := range 256 {
		each.Class[b] = b
	}
	behind := []int{}
	for b := range 256 {
		behind = append(behind, b+1)
	}
	for s := range 257 {
		each.Next = append(each.Next, slices.Clone(behind))
		each.Found = append(each.Found, 0)
		each.Ends = append(each.Ends, uint32(1000+s))
	}
	wantRun(t, each, "", 1000)
	all := ""
	for b := range 256 {
		one := string([]byte{byte(b)})
		all += one
		wantRun(t, each, one, uint32(1001+b))
		wantRun(t, each, all, uint32(1001+b))
		wantRun(t, each, one+"\n", 1011)
		wantRun(t, each, "\n"+one, uint32(1001+b))
	}
	wantRun(t, each, "\u00e9", 1001+0xa9)
	wantRun(t, each, "\u20ac", 1001+0xac)
	wantRun(t, each, "\xff\xfe", 1001+0xfe)
	newline := built(t, machine([]uint32{0, 0, 0, 1}, takes("a", 0, 1), takes("\n", 1, 2), takes("b", 2, 3)), 20)
	wantRun(t, newline, "xa\nby", 1)
	wantRun(t, newline, "a\n\nb", 0)
	dot := built(t, pattern(t, "a.b$"), 20)
	wantRun(t, dot, "a\nb", 0)
	wantRun(t, dot, "a\x00b", 1)
	wantRun(t, dot, "axb\n", 0)
	c := chance(107)
	for range 2000 {
		d := c.table(1+c.Intn(9), 1+c.Intn(9))
		line := c.line(20)
		wantRun(t, d, line, slowRun(d, line))
	}
}

// P10.5: what is handed in is not changed, nor the room behind it.
func TestHandedInStays(t *testing.T) {
	c := chance(108)
	for range 400 {
		roomy := c.machine(12, 40)
		for range 12 {
			roomy.Edges = append(roomy.Edges, takes("ab", c.Intn(12), c.Intn(12)))
		}
		states, edges := 1+c.Intn(9), 8
		for i := range roomy.Edges[:edges] {
			roomy.Edges[i].From %= states
			roomy.Edges[i].To %= states
		}
		whole := copied(roomy)
		m := api.NFA{States: states, Edges: roomy.Edges[:edges], Rules: roomy.Rules[:states]}
		for _, allowed := range []int{c.Intn(3), api.MaxStates} {
			subset.Build(m, allowed)
			if !sameMachine(roomy, whole) {
				t.Fatalf("Build changes the machine: %v, was %v", roomy, whole)
			}
		}
		d := c.table(9, 5)
		kept := copiedTable(d)
		front := api.DFA{Class: d.Class, Next: d.Next[:9-c.Intn(2)], Found: d.Found[:9-c.Intn(2)], Ends: d.Ends[:9]}
		subset.Right(front)
		subset.Run(front, c.line(9))
		if !sameTable(d, kept) {
			t.Fatalf("Right or Run changes the table: %v, was %v", d, kept)
		}
	}
}

// P10.5: what is handed in is not kept: what is written into it behind the call changes neither the table nor a later one.
func TestNothingIsKept(t *testing.T) {
	c := chance(109)
	for range 300 {
		m := c.machine(1+c.Intn(12), 12)
		whole := copied(m)
		d, e := subset.Build(m, 300)
		want := copiedTable(d)
		for i := range m.Edges {
			m.Edges[i] = api.Edge{Kind: -9, From: -9, To: -9, Set: bytesBut("")}
		}
		for i := range m.Rules {
			m.Rules[i] = ^m.Rules[i]
		}
		if !sameTable(d, want) {
			t.Fatalf("the table shares memory with the machine: %v, was %v", d, want)
		}
		if again, f := subset.Build(whole, 300); !sameTable(again, want) || e != f {
			t.Fatalf("another answer than before: %v, %d, was %v, %d", again, f, want, e)
		}
	}
}

// P10.5: what is answered is new memory: the lists of a table share none, the room behind them neither; and writing into one changes no later answer.
func TestNewMemory(t *testing.T) {
	c := chance(110)
	for done := 0; done < 300; {
		m := c.machine(1+c.Intn(12), 12)
		d, e := subset.Build(m, 300)
		if e != api.OK {
			continue
		}
		done++
		want := copiedTable(d)
		other := built(t, m, 300)
		for s := range d.Next { // each list in turn, the others must stay
			list := d.Next[s][:cap(d.Next[s])]
			for i := range list {
				list[i] = -9
			}
			for later := s + 1; later < len(d.Next); later++ {
				if !slices.Equal(d.Next[later], want.Next[later]) {
					t.Fatalf("the lists %d and %d share memory", s, later)
				}
			}
		}
		found, ends := d.Found[:cap(d.Found)], d.Ends[:cap(d.Ends)]
		for i := range found {
			found[i] = 99
		}
		if !slices.Equal(d.Ends, want.Ends) {
			t.Fatalf("Found and Ends share memory")
		}
		for i := range ends {
			ends[i] = 77
		}
		if slices.ContainsFunc(found, func(word uint32) bool { return word != 99 }) {
			t.Fatalf("Found and Ends share memory")
		}
		lists := d.Next[:cap(d.Next)]
		for i := range lists {
			lists[i] = nil
		}
		if again := built(t, m, 300); !sameTable(other, want) || !sameTable(again, want) {
			t.Fatalf("written into an answer: another one is %v, the next %v, want %v", other, again, want)
		}
	}
}

// P10.5: no call panics, whatever it is given.
func TestNoPanic(t *testing.T) {
	c := chance(111)
	numbers := []int{math.MinInt, -4096, -1, 0, 0, 0, 1, 1, 1, 2, 2, 3, 4, 5, 255, 256, 257, 4095, 4096, 4097, math.MaxInt}
	number := func() int { return numbers[c.Intn(len(numbers))] }
	for range 20000 {
		m := api.NFA{States: number()}
		for range c.Intn(5) {
			m.Rules = append(m.Rules, c.Uint32())
		}
		for range c.Intn(4) {
			m.Edges = append(m.Edges, api.Edge{Kind: number(), From: number(), To: number(), Set: api.Set{c.Uint64() * uint64(c.Intn(2))}})
		}
		states := number()
		d, e := subset.Build(m, states)
		if (e == api.ErrMachine) != !nfa.Right(m) || e == api.OK && !subset.Right(d) || e != api.OK && !sameTable(d, api.DFA{}) {
			t.Fatalf("Build(%v, %d) = %v, %d", m, states, d, e)
		}
		d = api.DFA{}
		for range c.Intn(5) {
			var next []int
			for range c.Intn(4) {
				next = append(next, number())
			}
			d.Next = append(d.Next, next)
		}
		for range c.Intn(5) {
			d.Found = append(d.Found, c.Uint32()&c.Uint32()&c.Uint32())
		}
		for range c.Intn(5) {
			d.Ends = append(d.Ends, c.Uint32()|c.Uint32()|c.Uint32())
		}
		d.Class[c.Intn(256)] = number()
		wantRight(t, d, slowRight(d))
	}
}

// soon asks that something is done within a time that is far more than it takes.
func soon(t *testing.T, what string, do func()) {
	t.Helper()
	start := time.Now()
	do()
	if took := time.Since(start); took > 30*time.Second {
		t.Errorf("%s took %v", what, took)
	}
}

// P10.5: every call ends: on the greatest machines of patterns, on great ones that no pattern has, on those with more moments than can be counted, on rings of free edges, on long lines.
func TestEnds(t *testing.T) {
	for _, p := range []string{"((a?){255}){4}", "((a{0,30}){0,30})*b", "(a{255}){8}", "((a|b|c|d|e|f|g|h){20}){5}", "((a*)*){200}b", "(^|$|a){255}", "(a|b)*a(a|b){200}", "x.{255}y", "([a-z]|[0-9]|[^x])*x.{20}$"} {
		m := pattern(t, p)
		soon(t, p, func() {
			if d, e := subset.Build(m, math.MaxInt); e == api.OK {
				wantLine(t, m, d, strings.Repeat("a", 300)+"b")
			} else if e != api.ErrCap {
				t.Errorf("%q: %d", p, e)
			}
		})
	}
	const n = 100_000
	ring, forth, same := machine(make([]uint32, n), takes("a", 0, n/2)), machine(make([]uint32, n)), machine(make([]uint32, 2))
	for s := 1; s < n; s++ {
		ring.Edges = append(ring.Edges, free(s, s%(n-1)+1))
		forth.Edges = append(forth.Edges, free(s-1, s), end(s, s-1), begin(s, s-1))
		same.Edges = append(same.Edges, takes("a", 0, 1))
	}
	for k, m := range []api.NFA{ring, forth, same} {
		m.Rules[m.States-1] = 1
		soon(t, fmt.Sprint("a great machine, ", k), func() {
			d := built(t, m, 9)
			wantLine(t, m, d, "")
			wantLine(t, m, d, "xax")
		})
	}
	rings := machine(make([]uint32, 3), takesSet(bytesBut("x"), 0, 1), begin(1, 2), begin(2, 1), free(1, 2), free(2, 1), free(2, 0), end(2, 2))
	soon(t, "rings", func() { wantSlow(t, rings) })
	soon(t, "a long line", func() {
		d := built(t, pattern(t, "ab$"), 9)
		wantRun(t, d, strings.Repeat("a", 1<<22)+"b", 1)
	})
}

// branching is a machine with far more rows of states that a byte leads to than moments: a chain gone on by each byte, and beside it a ring of free edges that each of many bytes enters at another state.
func branching(long, classes int) api.NFA {
	m := api.NFA{States: long + classes, Edges: []api.Edge{begin(0, 1)}, Rules: make([]uint32, long+classes)}
	for s := 2; s < long; s++ {
		m.Edges = append(m.Edges, takesSet(bytesBut(""), s-1, s))
	}
	for c := range classes {
		m.Edges = append(m.Edges, takes(string([]byte{byte(c)}), 0, long+c), free(long+c, long+(c+1)%classes))
	}
	m.Rules[long-1] = 1
	return m
}

// P10.1: bytes that lead to different states from which the same are come to lead to one moment, however many such rows there are.
func TestOneMomentByManyBytes(t *testing.T) {
	small := branching(6, 5)
	wantStates(t, small, wantSlow(t, small))
	m := branching(20, 255)
	wantStates(t, m, built(t, m, api.MaxStates))
}

// P10.4, and the rules that hold everywhere (W5): the same answers whoever asks, several at once, and again and again.
func TestManyAtOnce(t *testing.T) {
	m := united(t, "(^a|(ab?|b){1,4}c*)*(a|b$)?c", "(a|b){3}$", "^b|x", "[0-9]+\\.[0-9]+")
	want := built(t, m, api.MaxStates)
	wantStates(t, m, want)
	line := "abbacabbab\nabcab 1.5"
	met, _ := sim.Line(m, line)
	var wait sync.WaitGroup
	for range 8 {
		wait.Go(func() {
			for range 10 {
				d, e := subset.Build(m, api.MaxStates)
				_, f := subset.Build(m, len(want.Next)-1)
				if !sameTable(d, want) || e != api.OK || f != api.ErrCap {
					t.Error("Build's answer hangs on who asks")
					return
				}
				if got, e := subset.Run(want, line); got != met || e != api.OK || !subset.Right(want) {
					t.Error("Run's answer hangs on who asks")
					return
				}
			}
		})
	}
	wait.Wait()
}
