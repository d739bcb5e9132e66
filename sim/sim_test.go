package sim_test

import (
	"fmt"
	"math"
	"slices"
	"strings"
	"sync"
	"testing"
	"time"

	"heron/api"
	"heron/deriv"
	"heron/ere"
	"heron/nfa"
	"heron/sim"
)

// bytesOf is the Set of some bytes.
func bytesOf(bytes string) api.Set {
	var a api.Set
	for i := range len(bytes) {
		a[bytes[i]/64] |= 1 << (bytes[i] % 64)
	}
	return a
}

// bytesBut is the Set of all bytes but some: the newline too.
func bytesBut(bytes string) api.Set {
	a := bytesOf(bytes)
	for i := range a {
		a[i] = ^a[i]
	}
	return a
}

func free(from, to int) api.Edge  { return api.Edge{Kind: api.EdgeFree, From: from, To: to} }
func begin(from, to int) api.Edge { return api.Edge{Kind: api.EdgeBegin, From: from, To: to} }
func end(from, to int) api.Edge   { return api.Edge{Kind: api.EdgeEnd, From: from, To: to} }

func takes(bytes string, from, to int) api.Edge {
	return api.Edge{Kind: api.EdgeByte, From: from, To: to, Set: bytesOf(bytes)}
}

// machine is a machine of some words, a state for each, and edges.
func machine(rules []uint32, edges ...api.Edge) api.NFA {
	return api.NFA{States: len(rules), Edges: edges, Rules: rules}
}

// rulesAt is so many words, all 0 but those of some states, which have bit 0, bit 1, ...
func rulesAt(states int, at ...int) []uint32 {
	rules := make([]uint32, states)
	for k, s := range at {
		rules[s] |= 1 << k
	}
	return rules
}

// copied is a machine that shares nothing with the one that it is a copy of.
func copied(m api.NFA) api.NFA {
	return api.NFA{States: m.States, Edges: slices.Clone(m.Edges), Rules: slices.Clone(m.Rules)}
}

// sameMachine tells whether two machines are the same.
func sameMachine(a, b api.NFA) bool {
	return a.States == b.States && slices.Equal(a.Edges, b.Edges) && slices.Equal(a.Rules, b.Rules)
}

// parsed is a pattern's tree.
func parsed(t *testing.T, p string) api.Node {
	t.Helper()
	n, at, e := ere.Parse(p)
	if e != api.OK {
		t.Fatalf("Parse(%q): %d at %d", p, e, at)
	}
	return n
}

// built is the machine of a tree.
func built(t *testing.T, n api.Node, rule int) api.NFA {
	t.Helper()
	m, e := nfa.Build(n, rule)
	if e != api.OK {
		t.Fatalf("Build: %d", e)
	}
	return m
}

// pattern is the machine of a pattern, with the rule 0.
func pattern(t *testing.T, p string) api.NFA {
	t.Helper()
	return built(t, parsed(t, p), 0)
}

// united is the union of machines.
func united(t *testing.T, list ...api.NFA) api.NFA {
	t.Helper()
	m, e := nfa.Union(list...)
	if e != api.OK {
		t.Fatalf("Union: %d", e)
	}
	return m
}

// begun is a walk at a line's beginning.
func begun(t *testing.T, m api.NFA) *sim.Walk {
	t.Helper()
	w, e := sim.Begin(m)
	if w == nil || e != api.OK {
		t.Fatalf("Begin(%.400v) = %v, %d", m, w, e)
	}
	return w
}

// walked is a walk behind some bytes, none of its questions asked on the way.
func walked(t *testing.T, m api.NFA, line string) *sim.Walk {
	t.Helper()
	w := begun(t, m)
	for i := range len(line) {
		w.Byte(line[i])
	}
	return w
}

// now is what a walk tells.
func now(w *sim.Walk) moment { return moment{w.States(), w.Rules(), w.End()} }

func sameMoment(a, b moment) bool {
	return slices.Equal(a.states, b.states) && a.rules == b.rules && a.end == b.end
}

// wantNow asks a walk for all that it tells.
func wantNow(t *testing.T, w *sim.Walk, rules, end uint32, states ...int) {
	t.Helper()
	if got := now(w); !sameMoment(got, moment{states, rules, end}) {
		t.Errorf("States %.200v, Rules %d, End %d, want %.200v, %d, %d", got.states, got.rules, got.end, states, rules, end)
	}
}

// wantLine asks what a line meets.
func wantLine(t *testing.T, m api.NFA, line string, want uint32) {
	t.Helper()
	if got, e := sim.Line(m, line); got != want || e != api.OK {
		t.Errorf("Line(%.400v, %.60q) = %d, %d, want %d", m, line, got, e, want)
	}
}

// wantWrong asks both calls about a machine that doesn't fit.
func wantWrong(t *testing.T, m api.NFA) {
	t.Helper()
	if w, e := sim.Begin(m); w != nil || e != api.ErrMachine {
		t.Errorf("Begin(%.400v) = %v, %d", m, w, e)
	}
	for _, line := range []string{"", "a", "\n"} {
		if got, e := sim.Line(m, line); got != 0 || e != api.ErrMachine {
			t.Errorf("Line(%.400v, %q) = %d, %d", m, line, got, e)
		}
	}
}

// wantSlow asks for each moment of a line, and for the line as a whole, as the chapter says them.
func wantSlow(t *testing.T, m api.NFA, line string) {
	t.Helper()
	w := begun(t, m)
	moments := slowMoments(m, line)
	for i, want := range moments {
		if i > 0 {
			w.Byte(line[i-1])
		}
		if got := now(w); !sameMoment(got, want) {
			t.Fatalf("%.800v behind %q: %v, want %v", m, line[:i], got, want)
		}
	}
	wantLine(t, m, line, moments[len(line)].end)
}

// P8.1 to P8.4: the chapter's examples.
func TestExamples(t *testing.T) {
	a := pattern(t, "a")
	w := begun(t, a)
	wantNow(t, w, 0, 0, 0)
	w.Byte('x')
	wantNow(t, w, 0, 0, 0)
	w.Byte('a')
	wantNow(t, w, 1, 1, 0, 1)
	w.Byte('x')
	wantNow(t, w, 1, 1, 0)
	wantLine(t, a, "xax", 1)
	wantLine(t, a, "", 0)

	front := pattern(t, "^a")
	w = begun(t, front)
	wantNow(t, w, 0, 0, 0, 1)
	w.Byte('x')
	wantNow(t, w, 0, 0, 0)
	wantLine(t, front, "a", 1)
	wantLine(t, front, "xa", 0)

	back := pattern(t, "a$")
	wantLine(t, back, "a", 1)
	wantLine(t, back, "ax", 0)
	w = walked(t, back, "a")
	wantNow(t, w, 0, 1, 0, 1)
	w.Byte('x')
	wantNow(t, w, 0, 0, 0)

	wantNow(t, begun(t, pattern(t, "")), 1, 1, 0)
	wantNow(t, begun(t, pattern(t, "^$")), 0, 1, 0, 1)
	wantNow(t, walked(t, pattern(t, "^$"), "x"), 0, 0, 0)
	for _, line := range []string{"", "a", "b", "ab", "ba", "\n", "aa\n", strings.Repeat("ab", 50)} {
		wantNow(t, walked(t, pattern(t, "$"), line), 0, 1, 0)
		wantLine(t, pattern(t, "a^"), line, 0)
		wantLine(t, pattern(t, "a*$"), line, 1)
	}

	wantNow(t, begun(t, machine([]uint32{1, 2, 4}, free(0, 1), free(1, 2), free(2, 0))), 7, 7, 0, 1, 2)
	wantNow(t, begun(t, machine([]uint32{0, 1}, end(0, 1), begin(1, 0))), 0, 1, 0)

	wantWrong(t, api.NFA{})
	wantWrong(t, api.NFA{States: 1})
}

// P8.1, P8.4: machines that don't fit, each way.
func TestWrongMachines(t *testing.T) {
	for _, states := range []int{math.MinInt, -1, 0, 1, 3, math.MaxInt} {
		wantWrong(t, api.NFA{States: states, Rules: []uint32{1, 1}})
		wantWrong(t, api.NFA{States: states, Rules: []uint32{1, 1}, Edges: []api.Edge{free(0, 0)}})
	}
	wantWrong(t, api.NFA{States: 2})
	wantWrong(t, api.NFA{States: 0, Rules: []uint32{}, Edges: []api.Edge{}})
	wantWrong(t, api.NFA{States: 2, Rules: []uint32{1}})
	wantWrong(t, api.NFA{States: 2, Rules: []uint32{1, 1, 1}})
	wantWrong(t, api.NFA{States: math.MaxInt32})
	wrong := []api.Edge{
		{Kind: 0}, {Kind: -1}, {Kind: 5}, {Kind: math.MaxInt}, {Kind: math.MinInt},
		{Kind: 0, Set: bytesOf("a")}, {Kind: 5, Set: bytesOf("a")},
		{Kind: api.EdgeFree, Set: bytesOf("\x00")}, {Kind: api.EdgeBegin, Set: bytesOf("\xff")}, {Kind: api.EdgeEnd, Set: bytesOf("\n")}, {Kind: api.EdgeFree, Set: bytesBut("")},
	}
	for kind := 1; kind <= 4; kind++ {
		for _, s := range []int{math.MinInt, -1, 2, 3, math.MaxInt} {
			wrong = append(wrong, api.Edge{Kind: kind, From: s}, api.Edge{Kind: kind, To: s}, api.Edge{Kind: kind, From: s, To: s})
		}
	}
	for _, e := range wrong {
		for at := range 3 { // wherever it stands
			edges := slices.Insert([]api.Edge{free(0, 1), takes("a", 1, 0)}, at, e)
			wantWrong(t, machine([]uint32{1, 1}, edges...))
		}
	}
}

// P8.1, P8.2: machines that fit by a hair: a Set without a byte, with the newline, with all; edges that stand twice, or lead nowhere else.
func TestRightMachines(t *testing.T) {
	m := machine([]uint32{0, 1}, takes("", 0, 1))
	for b := range 256 {
		wantNow(t, walked(t, m, string([]byte{byte(b)})), 0, 0, 0)
	}
	wantNow(t, walked(t, machine([]uint32{0, 1}, takes("\n", 0, 1)), "\n"), 1, 1, 0, 1)
	all := machine([]uint32{0, 1}, api.Edge{Kind: api.EdgeByte, To: 1, Set: bytesBut("")})
	for b := range 256 {
		wantNow(t, walked(t, all, string([]byte{byte(b)})), 1, 1, 0, 1)
	}
	wantNow(t, walked(t, machine([]uint32{0, 1, 2}, takes("a", 0, 1), takes("a", 0, 1), free(1, 2), free(1, 2), free(2, 2), begin(0, 0), end(2, 2)), "a"), 3, 3, 0, 1, 2)
	// states that nothing leads to
	wantNow(t, walked(t, machine([]uint32{0, 7, 8}, takes("a", 1, 2), free(2, 1), end(1, 0)), "aa"), 0, 0, 0)
}

// P8.1 to P8.4: a machine of one state, with and without edges.
func TestOneState(t *testing.T) {
	for _, rules := range []uint32{0, 1, 5, 1 << 31, math.MaxUint32} {
		for _, edges := range [][]api.Edge{nil, {}, {free(0, 0)}, {begin(0, 0)}, {end(0, 0)}, {takes("a", 0, 0)}, {free(0, 0), begin(0, 0), end(0, 0), takes("ab", 0, 0)}} {
			m := machine([]uint32{rules}, edges...)
			for _, line := range []string{"", "a", "x", "ab\n"} {
				wantNow(t, walked(t, m, line), rules, rules, 0)
				wantLine(t, m, line, rules)
			}
		}
	}
}

// P8.2: a walk goes on by any byte, and by the very one that it was handed: an edge of one byte takes that one alone.
func TestEachByte(t *testing.T) {
	for one := range 256 {
		m := machine([]uint32{0, 1}, takes(string([]byte{byte(one)}), 0, 1))
		w := begun(t, m)
		for b := range 256 {
			w.Byte(byte(b))
			if got, want := slices.Equal(w.States(), []int{0, 1}), b == one; got != want {
				t.Errorf("an edge of the byte %d: behind %d States %v", one, b, w.States())
			}
			if got, want := w.Rules() == 1, b >= one; got != want {
				t.Errorf("an edge of the byte %d: behind %d Rules %d", one, b, w.Rules())
			}
			line := string([]byte{'x' + byte(one&1), byte(b), 'x' + byte(one&1)})
			want := uint32(strings.Count(line, string([]byte{byte(one)})))
			wantLine(t, m, line, min(want, 1))
		}
	}
}

// P8.2, P8.4: a line is gone through by bytes, not by runes; the newline and the bytes 0 and 255 are bytes as others are.
func TestLineIsBytes(t *testing.T) {
	two := machine(rulesAt(4, 1, 2, 3), takes("\xc3", 0, 1), takes("\xa9", 1, 2), takes("\xff", 2, 3))
	wantLine(t, two, "\u00e9", 3)
	wantLine(t, two, "\u00e9\xff", 7)
	wantLine(t, two, "\xe9", 0)
	wantLine(t, two, "\xc3", 1)
	wantLine(t, pattern(t, "^.{3}$"), "\u20ac", 1)
	wantLine(t, pattern(t, "^.$"), "\u20ac", 0)
	wantLine(t, pattern(t, "^..$"), "\xff\xfe", 1)
	wantLine(t, pattern(t, "^..$"), "\x00\xff", 1)
	wantLine(t, pattern(t, "a."), "a\n", 0)
	wantLine(t, pattern(t, "a$"), "a\n", 0) // the newline is no end
	wantLine(t, pattern(t, "^a"), "\na", 0) // and behind it is no beginning
	wantLine(t, pattern(t, "^$"), "\n", 0)
	wantLine(t, pattern(t, "ab"), "a\nb", 0)
	wantLine(t, pattern(t, "ab"), "\nab\n", 1)
	wantLine(t, machine(rulesAt(4, 3), takes("a", 0, 1), takes("\n", 1, 2), takes("b", 2, 3)), "xa\nby", 1)
	wantLine(t, machine(rulesAt(3, 2), takes("\x00", 0, 1), takes("\xff", 1, 2)), "\xff\x00\xff", 1)
	wantLine(t, machine(rulesAt(3, 2), takes("\x00", 0, 1), takes("\xff", 1, 2)), "\xff\x00", 0)
}

// P8.1, P8.2, P8.3: free edges in a ring, from each state of it, also with rings in one another.
func TestFreeRings(t *testing.T) {
	for n := 2; n < 70; n++ {
		var ring []api.Edge
		for s := range n {
			ring = append(ring, free(1+s, 1+(s+1)%n), free(1+s, 1+s))
		}
		var all []int
		for s := range n + 1 {
			all = append(all, s)
		}
		for into := 1; into <= n; into += 1 + n/3 {
			m := machine(rulesAt(n+1, n, 1), append([]api.Edge{takes("a", 0, into)}, ring...)...)
			w := begun(t, m)
			wantNow(t, w, 0, 0, 0)
			w.Byte('a')
			wantNow(t, w, 3, 3, all...)
			w.Byte('b')
			wantNow(t, w, 3, 3, 0)
			slices.Reverse(m.Edges)
			wantNow(t, walked(t, m, "ba"), 3, 3, all...)
		}
	}
	// a ring through state 0, and one of beginnings and ends
	wantNow(t, walked(t, machine([]uint32{0, 1, 2}, free(0, 1), free(1, 2), free(2, 0)), "x"), 3, 3, 0, 1, 2)
	ends := machine([]uint32{0, 1, 2, 4}, begin(0, 1), begin(1, 0), end(1, 2), free(2, 3), end(3, 1))
	wantNow(t, begun(t, ends), 1, 7, 0, 1)
	wantNow(t, walked(t, ends, "x"), 1, 1, 0)
}

// chains calls a function with each list of kinds of edges without a byte, of at most so many.
func chains(most int, with func(kinds []int)) {
	var more func(kinds []int)
	more = func(kinds []int) {
		with(kinds)
		for _, kind := range []int{api.EdgeFree, api.EdgeBegin, api.EdgeEnd} {
			if len(kinds) < most {
				more(append(slices.Clone(kinds), kind))
			}
		}
	}
	more(nil)
}

// upTo is how many kinds there are ahead of the first that isn't one of some.
func upTo(kinds []int, of ...int) int {
	for i, kind := range kinds {
		if !slices.Contains(of, kind) {
			return i
		}
	}
	return len(kinds)
}

// first is so many numbers from 0 on.
func first(n int) []int {
	list := []int{}
	for i := range n {
		list = append(list, i)
	}
	return list
}

// P8.1, P8.2, P8.3: beginnings, ends and free edges one behind the other, in every order: an EdgeBegin behind an EdgeEnd, an EdgeEnd behind an EdgeBegin; how far a walk comes by them at the beginning, behind a byte, at the end.
func TestChainsOfEdges(t *testing.T) {
	chains(6, func(kinds []int) {
		m := machine(nil)
		for s, kind := range kinds {
			m.Edges = append(m.Edges, api.Edge{Kind: kind, From: s, To: s + 1})
		}
		m.States = len(kinds) + 1
		for s := range m.States {
			m.Rules = append(m.Rules, 1<<s)
		}
		upToRule := func(n int) uint32 { return 2<<n - 1 }
		atBegin := upTo(kinds, api.EdgeFree, api.EdgeBegin)
		behind := upTo(kinds, api.EdgeFree)
		behindEnd := upTo(kinds, api.EdgeFree, api.EdgeEnd)
		for range 2 {
			w := begun(t, m)
			wantNow(t, w, upToRule(atBegin), upToRule(len(kinds)), first(atBegin+1)...)
			w.Byte('x')
			wantNow(t, w, upToRule(atBegin), upToRule(max(atBegin, behindEnd)), first(behind+1)...)
			wantLine(t, m, "", upToRule(len(kinds)))
			wantLine(t, m, "xy", upToRule(max(atBegin, behindEnd)))
			slices.Reverse(m.Edges) // in whatever order they stand
		}
	})
}

// P8.2, P8.3: an EdgeBegin is gone at the beginning alone: not behind the first byte, not at the end of a line that has one.
func TestBeginBehindByte(t *testing.T) {
	m := machine(rulesAt(3, 2), takes("a", 0, 1), begin(1, 2))
	w := begun(t, m)
	for range 3 {
		w.Byte('a')
		wantNow(t, w, 0, 0, 0, 1)
	}
	over := machine(rulesAt(3, 2), end(0, 1), begin(1, 2)) // by an end to a beginning
	w = begun(t, over)
	wantNow(t, w, 0, 1, 0)
	w.Byte('a')
	wantNow(t, w, 0, 0, 0)
	wantLine(t, over, "", 1)
	wantLine(t, over, "a", 0)
	kept := machine(rulesAt(3, 2), begin(0, 1), takes("a", 1, 2)) // what was come to at the beginning goes on from there
	wantLine(t, kept, "a", 1)
	wantLine(t, kept, "ba", 0)
	wantNow(t, walked(t, kept, "aa"), 1, 1, 0)
}

// P8.3: what is come to by an EdgeEnd is there at the end alone: asked in the middle of a line it isn't gone on from, and isn't met any more if the line goes on.
func TestEndInTheMiddle(t *testing.T) {
	m := machine(rulesAt(4, 1, 2, 3), end(0, 1), takes("a", 1, 2), free(2, 3))
	w := begun(t, m)
	for _, b := range []byte("aaxa\na") {
		for range 3 {
			wantNow(t, w, 0, 1, 0)
		}
		w.Byte(b)
	}
	wantLine(t, m, "aaa", 1)
	late := machine(rulesAt(4, 2, 3), takes("a", 0, 1), end(1, 2), free(2, 3))
	w = begun(t, late)
	wantNow(t, w, 0, 0, 0)
	w.Byte('a')
	wantNow(t, w, 0, 3, 0, 1)
	w.Byte('b')
	wantNow(t, w, 0, 0, 0) // the end that was asked for is forgotten
	w.Byte('a')
	wantNow(t, w, 0, 3, 0, 1)
	far := machine(rulesAt(5, 4), end(0, 1), free(1, 2), end(2, 3), free(3, 4)) // free edges behind an end, and an end behind them
	wantNow(t, begun(t, far), 0, 1, 0)
	wantNow(t, walked(t, far, "x"), 0, 1, 0)
}

// P8.2, P8.3: state 0 is there at each moment, whatever leads to it or away from it, and a piece may begin anywhere.
func TestStateZeroAgain(t *testing.T) {
	for _, m := range []api.NFA{
		machine(rulesAt(4, 3), takes("a", 0, 1), takes("b", 1, 2), takes("a", 2, 3)),
		machine(rulesAt(2, 1), takes("a", 0, 1), takes("ab", 1, 1)),
		machine(rulesAt(2, 1), begin(0, 1), end(1, 0)),
		machine(rulesAt(3, 2), free(0, 1), takes("a", 1, 2)),
	} {
		w := begun(t, m)
		for _, b := range []byte("abaxbabab\naab") {
			if s := w.States(); len(s) == 0 || s[0] != 0 {
				t.Errorf("%v: States %v", m, s)
			}
			w.Byte(b)
		}
		wantSlow(t, m, "abaxbabab\naab")
	}
	row := machine(rulesAt(4, 3), takes("a", 0, 1), takes("a", 1, 2), takes("a", 2, 3))
	w := begun(t, row)
	wantNow(t, w, 0, 0, 0)
	w.Byte('a')
	wantNow(t, w, 0, 0, 0, 1)
	w.Byte('a')
	wantNow(t, w, 0, 0, 0, 1, 2) // a piece that began at the first a, one at the second
	w.Byte('a')
	wantNow(t, w, 1, 1, 0, 1, 2, 3)
	w.Byte('x')
	wantNow(t, w, 1, 1, 0)
	late := machine(rulesAt(3, 2), free(0, 1), takes("a", 1, 2)) // what is free from state 0 is there again too
	wantNow(t, walked(t, late, "xx"), 0, 0, 0, 1)
	wantNow(t, walked(t, late, "xxa"), 1, 1, 0, 1, 2)
}

// sizes is numbers of states about where a word's bits give out.
func sizes() []int { return []int{1, 2, 63, 64, 65, 127, 128, 129, 130, 191, 192, 193, 256, 257, 1000} }

// P8.1 to P8.3: machines of more than 64 and more than 128 states: by bytes, by free edges, forward and backward, to the last state.
func TestManyStates(t *testing.T) {
	for _, n := range sizes() {
		bytes, frees, back := machine(rulesAt(n, n-1)), machine(rulesAt(n, n-1)), machine(rulesAt(n, 0, n/2, n-1))
		for s := 1; s < n; s++ {
			bytes.Edges = append(bytes.Edges, takes("a", s-1, s))
			frees.Edges = append(frees.Edges, free(s-1, s))
			back.Edges = append(back.Edges, free(s, s-1))
		}
		back.Edges = append(back.Edges, takes("b", 0, n-1))
		want := bytes.Rules[0]
		w := begun(t, bytes)
		for length := range n + 3 {
			if length >= n-1 {
				want = 1
			}
			wantNow(t, w, want, want, first(min(length+1, n))...)
			w.Byte('a')
		}
		w.Byte('x')
		wantNow(t, w, 1, 1, 0)
		wantNow(t, begun(t, frees), 1, 1, first(n)...)
		wantNow(t, walked(t, frees, "x"), 1, 1, first(n)...)
		wantLine(t, back, "x", back.Rules[0])
		wantNow(t, walked(t, back, "b"), 7, 7, first(n)...)
		wantNow(t, walked(t, back, "bx"), 7, back.Rules[0]|7, 0)
	}
}

// P8.2, P8.3: each state by itself, of machines with several words of them: none stands for another one.
func TestEachState(t *testing.T) {
	for _, n := range sizes() {
		for to := range n {
			rules := make([]uint32, n)
			rules[to] = 1 << (to % 32)
			m := machine(rules, takes("a", 0, to), takes("b", to, 0), end(to, (to+1)%n))
			w := walked(t, m, "a")
			states := []int{0, to}
			if to == 0 {
				states = []int{0}
			}
			wantNow(t, w, rules[to], rules[to], states...)
			w.Byte('b')
			wantNow(t, w, rules[to], rules[to], 0)
		}
	}
}

// P8.1 to P8.4: each moment of walks of machines by chance is the chapter's.
func TestMachinesByChance(t *testing.T) {
	c := chance(8)
	for range 6000 {
		m := c.machine(1+c.Intn(7), 14)
		wantSlow(t, m, c.line(8))
	}
	for range 300 {
		m := c.machine(60+c.Intn(150), 400)
		wantSlow(t, m, c.line(12))
	}
}

// P8.1 to P8.4: the same of machines of trees and their unions.
func TestTreesByChance(t *testing.T) {
	c := chance(88)
	for range 1500 {
		var list []api.NFA
		for k := range 1 + c.Intn(3) {
			list = append(list, built(t, c.tree(1+c.Intn(4)), (k*7+c.Intn(2))%32))
		}
		m := list[0]
		if len(list) > 1 {
			m = united(t, list...)
		}
		if len(m.Edges) < 400 {
			wantSlow(t, m, c.line(7))
		}
	}
}

// P8.3: Rules, End and States change nothing of a walk, in any order, again and again; and Line doesn't hang on them (P8.6).
func TestAskingChangesNothing(t *testing.T) {
	c := chance(83)
	for range 2000 {
		m := c.machine(1+c.Intn(6), 14)
		line := c.line(8)
		asked := begun(t, m)
		for i := range len(line) + 1 {
			for range c.Intn(7) {
				switch c.Intn(3) {
				case 0:
					asked.Rules()
				case 1:
					asked.End()
				case 2:
					asked.States()
				}
			}
			want := now(walked(t, m, line[:i]))
			for range 2 {
				if got := now(asked); !sameMoment(got, want) {
					t.Fatalf("%v behind %q: asked %v, not asked %v", m, line[:i], got, want)
				}
			}
			if i < len(line) {
				asked.Byte(line[i])
			}
		}
		wantLine(t, m, line, asked.End())
		wantLine(t, m, line, walked(t, m, line).End())
	}
}

// P8.3, P8.6: States rise, from state 0 on, each once; Rules never loses a rule; End has all of Rules.
func TestWhatFollows(t *testing.T) {
	c := chance(86)
	for range 3000 {
		m := c.machine(1+c.Intn(80), 120)
		line := c.line(15)
		w := begun(t, m)
		before := uint32(0)
		for i := range len(line) + 1 {
			at := now(w)
			if len(at.states) == 0 || at.states[0] != 0 || at.states[len(at.states)-1] >= m.States {
				t.Fatalf("%v behind %q: States %v", m, line[:i], at.states)
			}
			for k := 1; k < len(at.states); k++ {
				if at.states[k] <= at.states[k-1] {
					t.Fatalf("%v behind %q: States %v", m, line[:i], at.states)
				}
			}
			if at.rules&before != before || at.end&at.rules != at.rules {
				t.Fatalf("%v behind %q: Rules %b behind %b, End %b", m, line[:i], at.rules, before, at.end)
			}
			before = at.rules
			if i < len(line) {
				w.Byte(line[i])
			}
		}
	}
}

// wipe writes into all of a machine's lists.
func wipe(m api.NFA) {
	for i := range m.Rules {
		m.Rules[i] = ^m.Rules[i]
	}
	for i := range m.Edges {
		m.Edges[i] = api.Edge{Kind: 9, From: -1, To: 1 << 40, Set: bytesBut("")}
	}
}

// P8.1: a walk keeps nothing of the machine's lists.
func TestWrittenBehindBegin(t *testing.T) {
	c := chance(81)
	for range 1500 {
		m := c.machine(1+c.Intn(70), 60)
		line := c.line(8)
		moments := slowMoments(m, line)
		at := c.Intn(len(line) + 1) // ahead of which byte they are written into
		w := begun(t, m)
		for i, want := range moments {
			if i == at {
				wipe(m)
			}
			if got := now(w); !sameMoment(got, want) {
				t.Fatalf("behind %q, written into at %d: %v, want %v", line[:i], at, got, want)
			}
			if i < len(line) {
				w.Byte(line[i])
			}
		}
	}
	// one word, one number at a time
	for _, change := range []func(m api.NFA){
		func(m api.NFA) { m.Rules[1] = 8 },
		func(m api.NFA) { m.Rules[0] = 8 },
		func(m api.NFA) { m.Edges[0].Set = bytesOf("b") },
		func(m api.NFA) { m.Edges[0].To = 0 },
		func(m api.NFA) { m.Edges[0].From = 1 },
		func(m api.NFA) { m.Edges[0].Kind = api.EdgeFree },
		func(m api.NFA) { m.Edges[1] = free(0, 2) },
		func(m api.NFA) { m.Edges[0], m.Edges[1] = m.Edges[1], m.Edges[0] },
	} {
		m := machine([]uint32{0, 1, 2}, takes("a", 0, 1), end(1, 2))
		w := begun(t, m)
		change(m)
		wantNow(t, w, 0, 0, 0)
		w.Byte('b')
		wantNow(t, w, 0, 0, 0)
		w.Byte('a')
		wantNow(t, w, 1, 3, 0, 1)
	}
}

// P8.5 and the rules that hold everywhere: what is handed in is not changed, nor the room behind it.
func TestHandedInStays(t *testing.T) {
	c := chance(85)
	for range 1000 {
		whole := c.machine(40+c.Intn(60), 80)
		wide := copied(whole)
		states, edges := 1+c.Intn(39), len(whole.Edges)/2
		for i := range edges {
			whole.Edges[i].From %= states
			whole.Edges[i].To %= states
			wide.Edges[i] = whole.Edges[i]
		}
		m := api.NFA{States: states, Edges: wide.Edges[:edges], Rules: wide.Rules[:states]} // with room behind both lists
		line := c.line(8)
		w := begun(t, m)
		for i := range len(line) {
			now(w)
			w.Byte(line[i])
		}
		if got, e := sim.Line(m, line); got != w.End() || e != api.OK {
			t.Fatalf("Line = %d, %d, the walk %d", got, e, w.End())
		}
		if !sameMachine(wide, whole) {
			t.Fatalf("a list that was handed in is changed")
		}
	}
}

// P8.5: what States answers is new memory: writing into it, and into the room behind it, changes neither the walk nor another answer.
func TestStatesNewMemory(t *testing.T) {
	c := chance(58)
	for range 1000 {
		m := c.machine(1+c.Intn(80), 120)
		line := c.line(6)
		w := begun(t, m)
		for i := range len(line) + 1 {
			want := now(walked(t, m, line[:i]))
			kept, one := w.States(), w.States()
			one = one[:cap(one)]
			for k := range one {
				one[k] = -9
			}
			if got := now(w); !sameMoment(got, want) || !slices.Equal(kept, want.states) {
				t.Fatalf("written into an answer: %v and %v, want %v", got, kept, want)
			}
			if i < len(line) {
				w.Byte(line[i])
			}
			if !slices.Equal(kept, want.states) {
				t.Fatalf("a byte changes what was answered ahead of it: %v, want %v", kept, want.states)
			}
		}
	}
}

// P8.5: walks have nothing in common: each of several goes on by its own line, whichever is handed a byte first.
func TestSeveralWalks(t *testing.T) {
	c := chance(852)
	for range 800 {
		machines := []api.NFA{c.machine(1+c.Intn(70), 60)}
		machines = append(machines, machines[0], copied(machines[0]), c.machine(1+c.Intn(70), 60))
		var walks []*sim.Walk
		lines := make([]string, len(machines))
		for _, m := range machines {
			walks = append(walks, begun(t, m))
		}
		for range 24 {
			k := c.Intn(len(walks))
			b := "aab\nx"[c.Intn(5)]
			walks[k].Byte(b)
			lines[k] += string([]byte{b})
			if c.Intn(3) == 0 {
				now(walks[c.Intn(len(walks))])
			}
		}
		for k, w := range walks {
			if got, want := now(w), now(walked(t, machines[k], lines[k])); !sameMoment(got, want) {
				t.Fatalf("walk %d behind %q: %v, want %v", k, lines[k], got, want)
			}
		}
	}
}

// lines calls a function with each line of at most so many of some bytes.
func lines(bytes string, most int, with func(line string)) {
	var more func(line string)
	more = func(line string) {
		with(line)
		for i := range len(bytes) {
			if len(line) < most {
				more(line + bytes[i:i+1])
			}
		}
	}
	more("")
}

// P8.4, P8.6: what the machine of a pattern meets on lines.
func TestPatterns(t *testing.T) {
	for _, c := range []string{
		"a+1+xax", "a+0+", "a+0+x", "ab+1+aab", "ab+0+ba", "(ab|cd)e+1+xcde", "(ab|cd)e+0+ade", "a{3}+0+aab aa", "a{3}+1+baaab",
		"^a+1+ab", "^a+0+ba", "a$+1+ba", "a$+0+ab", "a$+1+axa", "^a$+1+a", "^a$+0+aa", "^$+1+", "^$+0+x", "$^+1+", "$^+0+x", "$+1+x", "^+1+x",
		"a^+0+a", "$a+0+a", "a^b+0+ab", "a$b+0+ab", "(^a|b)c+1+bc", "(^a|b)c+1+ac", "(^a|b)c+0+xac", "a(b$|c)+1+xab", "a(b$|c)+0+abx", "(^|a)b+1+b", "(^|a)b+1+xab", "(^|a)b+0+xb",
		"(^){2}a+1+ab", "(^){2}a+0+ba", "(^)*a+1+ba", "($a)*b+1+b", "(a$|^){2}+1+a", "(a|$){2}+1+xa", "(a|$){2}b+0+ab", "(^a)*b+1+xb", "(^|$)+1+x", "(^$|a)+0+b", "(^$)*+1+b",
		"[^a]+0+aaa", "[^a]+1+aba", ".+0+\n", ".+1+\x00", ".+1+\xff", "[^a]+0+\n", "a.b+0+a\nb", "+1+", "+1+abc", "a*+1+b", "a{0}+1+x",
	} {
		part := strings.SplitN(c, "+", 3)
		wantLine(t, pattern(t, part[0]), part[2], uint32(part[1][0]-'0'))
	}
}

// wantTree asks a tree's machine about a line: just bit k, and just if the tree takes a piece of the line.
func wantTree(t *testing.T, n api.Node, m api.NFA, rule int, line string) {
	t.Helper()
	takes, e := deriv.Search(n, line)
	if e != api.OK || takes != slowSearch(n, line) {
		t.Fatalf("%v: the roads that the line is held against don't agree on %q: %d", n, line, e)
	}
	want := uint32(0)
	if takes {
		want = 1 << rule
	}
	if got, e := sim.Line(m, line); got != want || e != api.OK {
		t.Fatalf("%v, rule %d, on %q: %d, %d, want %d", n, rule, line, got, e, want)
	}
}

// P8.6: the machine of a tree meets just its own rule, and just where the tree takes a piece of the line.
func TestTreesMeet(t *testing.T) {
	for rule, p := range []string{"", "a", "^a", "a$", "^$", "$^", "ab|ba", "(a|b)*b$", "^(ab?)*$", "a{2,3}", "(^|a)b", "b(a|$)", "(^a|b$){2}", "a^b", "a$b", "[^a]", ".b", "^.$", "(^$|ab)+", "((a?){3}b){2}", "(a*$|^b)a", "(^b)*a", "(b$)*a", "(^|a){2}b", "(a|$){3}", "()*", "(a{0}b){1,2}$", "a+b+a+", "($|^)*", "(^.a|b.$)", "b{3,}", "^(a|b){0,2}$"} {
		n := parsed(t, p)
		m := built(t, n, rule)
		lines("ab\n", 5, func(line string) { wantTree(t, n, m, rule, line) })
	}
	c := chance(861)
	for range 2500 {
		n := c.tree(1 + c.Intn(4))
		rule := c.Intn(32)
		m, e := nfa.Build(n, rule)
		if e == api.ErrBig {
			continue
		}
		for range 4 {
			wantTree(t, n, m, rule, c.line(9))
		}
	}
}

// P8.6: a union meets what its machines meet together, at each moment.
func TestUnionMeets(t *testing.T) {
	c := chance(862)
	for range 1500 {
		var list []api.NFA
		for range c.Intn(5) {
			list = append(list, c.machine(1+c.Intn(30), 40))
		}
		all := begun(t, united(t, list...))
		var walks []*sim.Walk
		for _, m := range list {
			walks = append(walks, begun(t, m))
		}
		line := c.line(8)
		for i := range len(line) + 1 {
			rules, end := uint32(0), uint32(0)
			for _, w := range walks {
				rules |= w.Rules()
				end |= w.End()
			}
			if all.Rules() != rules || all.End() != end {
				t.Fatalf("%v behind %q: Rules %d, End %d, want %d, %d", list, line[:i], all.Rules(), all.End(), rules, end)
			}
			for _, w := range append(walks, all) {
				if i < len(line) {
					w.Byte(line[i])
				}
			}
		}
		want := uint32(0)
		for _, m := range list {
			one, _ := sim.Line(m, line)
			want |= one
		}
		wantLine(t, united(t, list...), line, want)
	}
	var rules []api.NFA // as many as there may be, each with its own bit
	for k := range api.MaxRules {
		rules = append(rules, built(t, parsed(t, fmt.Sprintf("^x{%d}$|y%dy", k, k)), k))
	}
	all := united(t, rules...)
	for k := range api.MaxRules {
		wantLine(t, all, strings.Repeat("x", k), 1<<k)
		wantLine(t, all, fmt.Sprintf("%sy%dy", strings.Repeat("x", 40), k), 1<<k)
	}
	wantLine(t, all, "y0y y31y y7y", 1|1<<31|1<<7)
}

// soon asks that something is done within a time that is far more than it takes.
func soon(t *testing.T, what string, do func()) {
	t.Helper()
	start := time.Now()
	do()
	if took := time.Since(start); took > 20*time.Second {
		t.Errorf("%s took %v", what, took)
	}
}

// The rules that hold everywhere (W1): every call ends soon, on the greatest machine of a pattern, on great machines that no pattern has, on long lines.
func TestEndsSoon(t *testing.T) {
	for _, p := range []string{"((a?){255}){4}", "((a{0,30}){0,30})*b", "(a{255}){8}", "((a|b|c|d|e|f|g|h){20}){5}", "((a*)*){200}b", "(^|$|a){255}"} {
		m := pattern(t, p)
		soon(t, p, func() { sim.Line(m, strings.Repeat("a", api.MaxLine)) })
	}
	const n = 200_000
	forth, back, wide, same := machine(rulesAt(n, n-1)), machine(rulesAt(n, 1)), machine(rulesAt(n, n-1)), machine(rulesAt(2, 1))
	for s := 1; s < n; s++ {
		forth.Edges = append(forth.Edges, free(s-1, s))
		back.Edges = append(back.Edges, free(s, s-1))
		wide.Edges = append(wide.Edges, takes("a", 0, s), end(s, 0))
		same.Edges = append(same.Edges, takes("a", 0, 1))
	}
	back.Edges = append(back.Edges, takes("a", 0, n-1))
	for k, m := range []api.NFA{forth, back, wide, same} {
		soon(t, fmt.Sprint("a great machine, ", k), func() {
			if got, e := sim.Line(m, "aaa"); got != 1 || e != api.OK {
				t.Errorf("a great machine, %d: %d, %d", k, got, e)
			}
			w := walked(t, m, "xa")
			now(w)
			if got := len(w.States()); got != m.States {
				t.Errorf("a great machine, %d: in %d states", k, got)
			}
		})
	}
	soon(t, "a long line", func() { wantLine(t, pattern(t, "ab$"), strings.Repeat("a", 1<<20)+"b", 1) })
	soon(t, "a wrong machine", func() { wantWrong(t, api.NFA{States: math.MaxInt}) })
}

// The rules that hold everywhere (W5): the same answers whoever asks, several at once.
func TestManyAtOnce(t *testing.T) {
	m := united(t, pattern(t, "(^a|(ab?|b){1,4}c*)*(a|b$)?c"), built(t, parsed(t, "(a|b){3}$"), 5), built(t, parsed(t, "^b|x"), 31))
	line := "abbacabbab\nabcab"
	moments := slowMoments(m, line)
	one := begun(t, m) // that several ask at once
	var wait sync.WaitGroup
	for range 8 {
		wait.Go(func() {
			for range 60 {
				w, _ := sim.Begin(m)
				for i, want := range moments {
					if i > 0 {
						w.Byte(line[i-1])
					}
					if !sameMoment(now(w), want) || !sameMoment(now(one), moments[0]) {
						t.Error("the answers hang on who asks")
						return
					}
				}
				if got, e := sim.Line(m, line); got != moments[len(line)].end || e != api.OK {
					t.Error("the answers hang on who asks")
					return
				}
			}
		})
	}
	wait.Wait()
}
