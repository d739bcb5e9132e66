package least_test

import (
	"fmt"
	"math"
	"slices"
	"strings"
	"testing"

	"heron/api"
	"heron/ere"
	"heron/least"
	"heron/nfa"
	"heron/subset"
)

// table is one in which each of some bytes has a class of its own, from 1 on, and all others 0.
func table(bytes string, next [][]int, found, ends []uint32) api.DFA {
	d := api.DFA{Next: next, Found: found, Ends: ends}
	for i := range len(bytes) {
		d.Class[bytes[i]] = i + 1
	}
	return d
}

// words is so many words that are 0.
func words(n int) []uint32 { return make([]uint32, n) }

// united is the table of the union of patterns, pattern k with the rule k.
func united(t *testing.T, patterns ...string) api.DFA {
	t.Helper()
	var list []api.NFA
	for k, p := range patterns {
		n, at, e := ere.Parse(p)
		m, f := nfa.Build(n, k)
		if e != api.OK || f != api.OK {
			t.Fatalf("a machine of %q: %d at %d, %d", p, e, at, f)
		}
		list = append(list, m)
	}
	m, e := nfa.Union(list...)
	d, f := subset.Build(m, api.MaxStates)
	if e != api.OK || f != api.OK {
		t.Fatalf("a table of %q: %d, %d", patterns, e, f)
	}
	return d
}

// made is the least table of one that fits.
func made(t *testing.T, d api.DFA) api.DFA {
	t.Helper()
	l, e := least.Make(d)
	if e != api.OK {
		t.Fatalf("Make(%s): %d", tell(d), e)
	}
	return l
}

// wantMade asks for a least table.
func wantMade(t *testing.T, d, want api.DFA) {
	t.Helper()
	if got := made(t, d); !sameTable(got, want) {
		t.Fatalf("Make(%s) = %s, want %s", tell(d), tell(got), tell(want))
	}
}

// wantSlow asks for the least table that the chapter's words make.
func wantSlow(t *testing.T, d api.DFA) api.DFA {
	t.Helper()
	want := slowMake(d)
	wantMade(t, d, want)
	return want
}

// wantSame asks for two tables that meet the same on every line (bytes -1), or for a line of so many bytes that tells them apart; in both orders.
func wantSame(t *testing.T, a, b api.DFA, bytes int) {
	t.Helper()
	for range 2 {
		yes, line, e := least.Same(a, b)
		if yes != (bytes < 0) || len(line) != max(0, bytes) || e != api.OK {
			t.Fatalf("Same(%s, %s) = %v, %.80q, %d, want a line of %d bytes", tell(a), tell(b), yes, line, e, bytes)
		}
		if strings.Contains(line, "\n") {
			t.Fatalf("Same(%s, %s): the line %.80q has a newline", tell(a), tell(b), line)
		}
		x, _ := subset.Run(a, line)
		y, _ := subset.Run(b, line)
		if !yes && x == y {
			t.Fatalf("Same(%s, %s): %.80q doesn't tell them apart", tell(a), tell(b), line)
		}
		a, b = b, a
	}
}

// wantSameSlow asks for what is told where every pair of states is gone through.
func wantSameSlow(t *testing.T, a, b api.DFA) int {
	t.Helper()
	bytes := slowSame(a, b)
	wantSame(t, a, b, bytes)
	return bytes
}

// P11.1: the chapter's examples 1 to 3, and what is left of them is left as it is.
func TestMakeExamples(t *testing.T) {
	next := [][]int{{0, 1}, {2, 1}, {2, 1}}
	three := api.DFA{Next: [][]int{{0, 1, 1}, {1, 1, 1}}, Found: []uint32{0, 1}, Ends: []uint32{0, 1}}
	for b := range three.Class {
		three.Class[b] = 1
		if b > 'b' {
			three.Class[b] = 2
		}
	}
	three.Class['b'] = 0
	for _, c := range []struct{ d, want api.DFA }{
		{table("a", next, []uint32{0, 1, 1}, []uint32{0, 1, 1}), table("a", [][]int{{0, 1}, {1, 1}}, []uint32{0, 1}, []uint32{0, 1})},
		{table("a", next, words(3), []uint32{0, 1, 1}), table("a", [][]int{{0, 1}, {1, 1}}, words(2), []uint32{0, 1})},
		{table("a", [][]int{{1, 2}, {1, 1}, {2, 2}, {0, 0}}, words(4), []uint32{0, 0, 0, 4}), table("", [][]int{{0}}, words(1), words(1))},
		{three, table("b", [][]int{{1, 0}, {1, 1}}, []uint32{0, 1}, []uint32{0, 1})},
	} {
		wantMade(t, c.d, c.want)
		wantMade(t, c.want, c.want)
		wantSlow(t, c.d)
	}
}

// P11.2: the chapter's examples 4 and 5.
func TestSameExamples(t *testing.T) {
	for _, c := range []struct {
		p, q  string
		bytes int
	}{{"a", "aa*", -1}, {"a", "b", 1}, {"", "$", -1}, {"", "x", 0}, {"a$", "a", 2}} {
		wantSame(t, united(t, c.p), united(t, c.q), c.bytes)
	}
	_, line, _ := least.Same(united(t, "a$"), united(t, "a"))
	if line[0] != 'a' || line[1] == 'a' {
		t.Errorf("\"a$\" and \"a\": %q", line)
	}
	a := table("\n", [][]int{{0, 1}, {1, 1}}, words(2), []uint32{0, 0})
	b := table("\n", [][]int{{0, 1}, {1, 1}}, words(2), []uint32{0, 1})
	wantSame(t, a, b, -1)
	if sameTable(made(t, a), made(t, b)) {
		t.Errorf("tables that differ on newlines alone have one least table: %s", tell(made(t, a)))
	}
	wantRefused(t, api.DFA{})
}

// wantRefused asks for a table that doesn't fit: by Make, and by Same on either side and on both.
func wantRefused(t *testing.T, d api.DFA) {
	t.Helper()
	if l, e := least.Make(d); !sameTable(l, api.DFA{}) || e != api.ErrMachine {
		t.Errorf("Make(%s) = %s, %d", tell(d), tell(l), e)
	}
	for _, good := range []api.DFA{fitting(), {Next: [][]int{{0}}, Found: words(1), Ends: words(1)}} {
		for _, two := range [][2]api.DFA{{d, good}, {good, d}, {d, d}, {d, {}}, {{}, d}} {
			if yes, line, e := least.Same(two[0], two[1]); yes || line != "" || e != api.ErrMachine {
				t.Errorf("Same(%s, %s) = %v, %q, %d", tell(two[0]), tell(two[1]), yes, line, e)
			}
		}
	}
}

// fitting is a table that fits: two classes, three states, each of them met.
func fitting() api.DFA {
	return api.DFA{Class: [256]int{'a': 1}, Next: [][]int{{0, 1}, {2, 1}, {2, 2}}, Found: []uint32{0, 1, 1 | 1<<31}, Ends: []uint32{4, 5, 3 | 1<<31}}
}

// P11.1, P11.2: tables that don't fit, each way.
func TestWrongTables(t *testing.T) {
	wantMade(t, fitting(), fitting())
	wantSame(t, fitting(), fitting(), -1)
	for name, turn := range map[string]func(d *api.DFA){
		"nothing at all":        func(d *api.DFA) { *d = api.DFA{} },
		"no list":               func(d *api.DFA) { d.Next = nil },
		"empty lists":           func(d *api.DFA) { d.Next, d.Found, d.Ends = [][]int{}, words(0), words(0) },
		"lists without numbers": func(d *api.DFA) { d.Next = [][]int{{}, {}, {}}; d.Class['a'] = 0 },
		"a list too long":       func(d *api.DFA) { d.Next[1] = []int{2, 1, 2} },
		"a list too short":      func(d *api.DFA) { d.Next[2] = []int{2} },
		"a list more":           func(d *api.DFA) { d.Next = append(d.Next, []int{2, 2}) },
		"Found short":           func(d *api.DFA) { d.Found = d.Found[:2] },
		"Found long":            func(d *api.DFA) { d.Found = append(d.Found, 0) },
		"Ends short":            func(d *api.DFA) { d.Ends = d.Ends[:2] },
		"Ends long":             func(d *api.DFA) { d.Ends = append(d.Ends, 0) },
		"Next below":            func(d *api.DFA) { d.Next[2][1] = -1 },
		"Next above":            func(d *api.DFA) { d.Next[2][1] = 3 },
		"Next far below":        func(d *api.DFA) { d.Next[0][0] = math.MinInt },
		"Next far above":        func(d *api.DFA) { d.Next[0][0] = math.MaxInt },
		"Class below":           func(d *api.DFA) { d.Class[255] = -1 },
		"Class above":           func(d *api.DFA) { d.Class[0] = 2 },
		"Class far above":       func(d *api.DFA) { d.Class['\n'] = math.MaxInt },
		"Found not in Ends":     func(d *api.DFA) { d.Ends[2] = 3 },
		"Found lost":            func(d *api.DFA) { d.Next[1][0] = 0 },
		"Found lost, no byte":   func(d *api.DFA) { d.Class['a'] = 0; d.Next[1][1] = 0 },
		"Found lost, not met":   func(d *api.DFA) { d.Next[0][1] = 0; d.Next[2][1] = 1 },
		"too many classes":      func(d *api.DFA) { *d = wide(3, 257) },
		"too many states":       func(d *api.DFA) { *d = wide(api.MaxStates+1, 2) },
		"far too many states":   func(d *api.DFA) { *d = wide(4*api.MaxStates, 1) },
	} {
		d := fitting()
		turn(&d)
		if subset.Right(d) {
			t.Errorf("%s: it fits", name)
		}
		wantRefused(t, d)
	}
}

// wide is a table of so many states and classes in which each state goes to itself, but by the last class to the next one, as long as there is one.
func wide(states, classes int) api.DFA {
	d := api.DFA{Class: [256]int{'z': min(classes, 256) - 1}, Found: words(states), Ends: words(states)}
	for s := range states {
		next := slices.Repeat([]int{s}, classes)
		next[classes-1] = min(s+1, states-1)
		d.Next = append(d.Next, next)
	}
	return d
}

// P11.1, P11.2: tables of one state: one class is left, whatever there were.
func TestOneState(t *testing.T) {
	for _, classes := range []int{1, 2, 3, 255, 256} {
		for _, two := range [][2]uint32{{0, 0}, {0, 1}, {1, 1}, {1, 3}, {0, math.MaxUint32}, {math.MaxUint32, math.MaxUint32}} {
			d := api.DFA{Next: [][]int{make([]int, classes)}, Found: []uint32{two[0]}, Ends: []uint32{two[1]}}
			for b := range d.Class {
				d.Class[b] = (b + 7) % classes
			}
			want := api.DFA{Next: [][]int{{0}}, Found: []uint32{two[0]}, Ends: []uint32{two[1]}}
			wantMade(t, d, want)
			wantSame(t, d, want, -1)
			other := copied(want)
			other.Ends[0] ^= 1 << 30
			if two[0]>>30 == 0 {
				wantSame(t, d, other, 0)
			}
		}
	}
}

// P11.1: states that are not met, whatever they tell: those to which nothing leads, those to which only such lead, those to which a class leads that no byte has.
func TestNotMet(t *testing.T) {
	want := table("a", [][]int{{0, 1}, {1, 0}}, words(2), []uint32{0, 8})
	nothing := table("a", [][]int{{0, 3}, {0, 2}, {1, 2}, {3, 0}}, words(4), []uint32{0, 1, 2, 8})
	noByte := table("a", [][]int{{0, 1, 2}, {1, 0, 3}, {2, 2, 2}, {3, 3, 3}}, []uint32{0, 0, 0, 4}, []uint32{0, 8, 2, 5})
	unlike := table("a", [][]int{{0, 1, 2}, {1, 3, 3}, {2, 2, 2}, {0, 1, 0}}, words(4), []uint32{0, 8, 2, 0}) // 0 and 3 are told apart by that class alone
	for _, d := range []api.DFA{nothing, noByte, unlike} {
		wantMade(t, d, want)
		wantSlow(t, d)
		wantSame(t, d, want, -1)
	}
	last := wide(api.MaxStates, 2) // none but the first is met
	last.Class['z'] = 0
	for s := range last.Ends {
		last.Ends[s] = uint32(s)
	}
	wantMade(t, last, api.DFA{Next: [][]int{{0}}, Found: words(1), Ends: words(1)})
	each := wide(8, 9) // by one byte each, every byte's class turn about
	for b := range 256 {
		each.Class = [256]int{}
		each.Class[b] = 8
		if l := made(t, each); len(l.Next) != 1 {
			t.Errorf("byte %d: %s", b, tell(l))
		}
		each.Ends[7] = 1
		if l := made(t, each); len(l.Next) != 8 || len(l.Next[0]) != 2 {
			t.Errorf("byte %d: %s", b, tell(l))
		}
		each.Ends[7] = 0
	}
}

// P11.1, P11.2: states that are alike but for one bit of Found, or of Ends: the one isn't told by Same, since a run meets Ends alone.
func TestWordsTellApart(t *testing.T) {
	one := api.DFA{Next: [][]int{{0}}, Found: words(1), Ends: []uint32{math.MaxUint32}}
	for bit := range 32 {
		d := table("a", [][]int{{0, 1}, {1, 1}}, words(2), []uint32{math.MaxUint32, math.MaxUint32})
		wantMade(t, d, one)
		d.Found[1] = 1 << bit
		wantMade(t, d, d)
		wantSame(t, d, one, -1)
		d.Found[1] = 0
		d.Ends[1] = ^uint32(1 << bit)
		wantMade(t, d, d)
		wantSame(t, d, one, 1)
		d.Ends[0] = d.Ends[1]
		wantMade(t, d, api.DFA{Next: [][]int{{0}}, Found: words(1), Ends: []uint32{^uint32(1 << bit)}})
		wantSame(t, d, one, 0)
	}
	// Found of one is Ends of the other
	crossed := api.DFA{Next: [][]int{{1}, {1}}, Found: []uint32{0, 1}, Ends: []uint32{1, 1}}
	wantMade(t, crossed, crossed)
	// three states, each pair alike in one of the words
	three := table("ab", [][]int{{0, 1, 2}, {1, 1, 1}, {2, 2, 2}}, []uint32{0, 0, 1}, []uint32{1, 3, 3})
	wantMade(t, three, three)
}

// classed is a table in which some bytes have other classes.
func classed(d api.DFA, bytes string, classes ...int) api.DFA {
	for i, c := range classes {
		d.Class[bytes[i]] = c
	}
	return d
}

// P11.1: classes are those of the bytes that lead to the same states, numbered as they are met from byte 0 on.
func TestClasses(t *testing.T) {
	d := api.DFA{Next: [][]int{{0, 1, 1, 0, 0, 1, 0}, {1, 1, 1, 1, 1, 0, 0}}, Found: words(2), Ends: []uint32{0, 1}} // no byte has the classes 0, 5 and 6
	for b := range d.Class {
		d.Class[b] = 3 + b%2
	}
	d = classed(d, "xy", 2, 1)
	wantMade(t, d, classed(api.DFA{Next: [][]int{{0, 1}, {1, 1}}, Found: words(2), Ends: []uint32{0, 1}}, "xy", 1, 1))
	d = classed(d, "\x00", 1)
	want := api.DFA{Next: [][]int{{1, 0}, {1, 1}}, Found: words(2), Ends: []uint32{0, 1}}
	for b := range want.Class {
		want.Class[b] = 1
	}
	wantMade(t, d, classed(want, "\x00xy", 0, 0, 0))
	wantSlow(t, d)
	// classes that are one since the states are
	twice := table("abc", [][]int{{0, 1, 2, 3}, {1, 1, 2, 3}, {2, 2, 1, 3}, {3, 3, 3, 3}}, words(4), []uint32{0, 1, 1, 2})
	wantMade(t, twice, classed(api.DFA{Next: [][]int{{0, 1, 2}, {1, 1, 2}, {2, 2, 2}}, Found: words(3), Ends: []uint32{0, 1, 2}}, "abc", 1, 1, 2))
	// bytes that the last state alone tells apart
	late := table("ab", [][]int{{0, 1, 1}, {2, 0, 0}, {0, 1, 2}}, words(3), []uint32{0, 1, 2})
	wantMade(t, late, late)
	late.Next[2][2] = 1
	wantMade(t, late, classed(api.DFA{Next: [][]int{{0, 1}, {2, 0}, {0, 1}}, Found: words(3), Ends: []uint32{0, 1, 2}}, "ab", 1, 1))
	// bytes that a state alone tells apart which isn't met
	gone := table("ab", [][]int{{0, 1, 1}, {0, 0, 0}, {0, 1, 2}}, words(3), []uint32{0, 1, 2})
	wantMade(t, gone, classed(api.DFA{Next: [][]int{{0, 1}, {0, 0}}, Found: words(2), Ends: []uint32{0, 1}}, "ab", 1, 1))
}

// eachByte is a table of 257 states and 256 classes: byte b leads to the state 1 + (b + turn) % 256 from everywhere, which tells b.
func eachByte(turn int) api.DFA {
	d := api.DFA{}
	for b := range d.Class {
		d.Class[b] = (b + turn) % 256
	}
	for s := range 257 {
		next := make([]int, 256)
		for c := range next {
			next[c] = 1 + c
		}
		d.Next = append(d.Next, next)
		d.Found = append(d.Found, 0)
		d.Ends = append(d.Ends, uint32((s+255-turn)%256+1))
	}
	d.Ends[0] = 0
	return d
}

// P11.1, P11.2: as many classes as there are bytes, however they are numbered.
func TestAllClasses(t *testing.T) {
	plain := eachByte(0)
	wantMade(t, plain, plain)
	for _, turn := range []int{1, 10, 128, 255} {
		d := eachByte(turn)
		wantMade(t, d, plain)
		wantSame(t, d, plain, -1)
	}
	for b := range 256 {
		d := copied(plain)
		d.Ends[1+b] = 1000
		wantMade(t, d, d)
		if b == '\n' {
			wantSame(t, d, plain, -1)
			continue
		}
		wantSame(t, d, plain, 1)
		if _, line, _ := least.Same(d, plain); line != string([]byte{byte(b)}) {
			t.Errorf("byte %d tells them apart, not %q", b, line)
		}
	}
	d := copied(plain) // two bytes that lead to states which are alike
	d.Ends[1+'y'] = d.Ends[1+'x']
	l := made(t, d)
	if len(l.Next) != 256 || len(l.Next[0]) != 255 || l.Class['x'] != 'x' || l.Class['y'] != 'x' || l.Class['z'] != 'y' || l.Next[0]['y'] != 'z' {
		t.Errorf("%s", tell(l))
	}
}

// P11.1: states are numbered as they are met, from state 0 on, for each the classes in their new order.
func TestNumbers(t *testing.T) {
	d := api.DFA{Next: [][]int{{4, 2, 0}, {1, 1, 3}, {1, 2, 4}, {3, 3, 3}, {4, 1, 0}}, Found: words(5), Ends: []uint32{10, 11, 12, 13, 14}}
	for b := range d.Class {
		d.Class[b] = 2
	}
	d = classed(d, "\x01\x02", 1, 0) // so the new classes are 2, 1, 0; the states 0, 2, 4, 1, 3
	want := api.DFA{Next: [][]int{{0, 1, 2}, {2, 1, 3}, {0, 3, 2}, {4, 3, 3}, {4, 4, 4}}, Found: words(5), Ends: []uint32{10, 12, 14, 11, 13}}
	wantMade(t, d, classed(want, "\x01\x02", 1, 2))
	wantSlow(t, d)
	d = classed(d, "\x00", 0) // now 0, 1, 2: the states 0, 4, 2, 1, 3
	want = api.DFA{Next: [][]int{{1, 2, 0}, {1, 3, 0}, {3, 2, 1}, {3, 3, 4}, {4, 4, 4}}, Found: words(5), Ends: []uint32{10, 14, 12, 11, 13}}
	for b := range want.Class {
		want.Class[b] = 2
	}
	wantMade(t, d, classed(want, "\x00\x01\x02", 0, 1, 0))
	wantSlow(t, d)
	back := table("a", [][]int{{3, 0}, {0, 0}, {1, 1}, {2, 2}}, words(4), []uint32{1, 2, 3, 4})
	wantMade(t, back, table("a", [][]int{{1, 0}, {2, 2}, {3, 3}, {0, 0}}, words(4), []uint32{1, 4, 3, 2}))
}

// P11.1: what state 0 was is 0, also where it is alike to others that stand ahead of nothing, or is met again and again.
func TestFirstState(t *testing.T) {
	wantMade(t, table("a", [][]int{{1, 2}, {3, 2}, {2, 0}, {1, 2}}, words(4), []uint32{0, 0, 1, 0}), table("a", [][]int{{0, 1}, {1, 0}}, words(2), []uint32{0, 1}))
	for n := 1; n < 40; n++ { // a ring of n, gone round k times
		for k := 1; k < 5; k++ {
			want := table("", nil, words(n), words(n))
			d := table("", nil, words(n*k), words(n*k))
			want.Ends[n-1] = 1
			for s := range n {
				want.Next = append(want.Next, []int{(s + 1) % n})
			}
			for s := range n * k {
				d.Next = append(d.Next, []int{(s + 1) % (n * k)})
				d.Ends[s] = want.Ends[s%n]
			}
			wantMade(t, d, want)
			wantSame(t, d, want, -1)
		}
	}
}

// P11.1: tables by chance have the least tables that the chapter's words make.
func TestSlow(t *testing.T) {
	c := chance(111)
	sizes := map[int]int{}
	for range 2500 {
		d := c.table(1+c.Intn(9), 1+c.Intn(4))
		l := wantSlow(t, d)
		sizes[len(d.Next)-len(l.Next)]++
	}
	for k := range 6 {
		if sizes[k] < 20 {
			t.Errorf("tables with %d states fewer: %v", k, sizes)
		}
	}
	for range 150 {
		wantSlow(t, c.blown(c.table(1+c.Intn(6), 1+c.Intn(4)), 3))
	}
}

// anchored is patterns with beginnings, ends and empty pieces in them.
func anchored() []string {
	return []string{
		"", "a", "^a", "a$", "^a$", "^", "$", "^$", "$^", "a^", "$a", "a^b", "a$b", "(^|a)b", "b(a|$)", "(^a|b$){2}", "(^$|ab)+", "($|^)*", "(^)*a", "($a)*b", "(^a)*b", "(a$|^){2}", "(a|$){3}", "a*$", "^a*",
		"ab|ba", "(a|b)*b$", "^(ab?)*$", "a{2,3}", "[^a]", ".b", "^.$", ".", "^[^a]", "((a?){3}b){2}", "(a{0}b){1,2}$", "a+b+a+", "b{3,}", "^(a|b){0,2}$", "(^.a|b.$)", "()", "(|a)", "a{0}", "(^(a|b)|b(^|$)|$a)*b?$",
	}
}

// rows calls a function with each row of at most so many of some bytes.
func rows(bytes string, most int, with func(row string)) {
	var more func(row string)
	more = func(row string) {
		with(row)
		for i := range len(bytes) {
			if len(row) < most {
				more(row + bytes[i:i+1])
			}
		}
	}
	more("")
}

// P11.1, P11.2: the tables of patterns: each beside its least table, and beside each other one's.
func TestPatterns(t *testing.T) {
	var all []api.DFA
	for _, p := range anchored() {
		d := united(t, p)
		l := wantSlow(t, d)
		wantSame(t, d, l, -1)
		rows("ab\n", 5, func(row string) {
			x, _ := subset.Run(d, row)
			if y, e := subset.Run(l, row); x != y || e != api.OK {
				t.Fatalf("%q over %q: %d, its least table %d, %d", p, row, x, y, e)
			}
		})
		all = append(all, d)
	}
	for _, a := range all {
		for _, b := range all {
			wantSameSlow(t, a, b)
		}
	}
	for _, c := range []struct {
		p, want string
	}{ // but for the classes
		{"", "[[0]] [1] [1]"}, {"a^", "[[0]] [0] [0]"}, {"$", "[[0]] [0] [1]"}, {"^$", "[[1] [1]] [0 0] [1 0]"}, {"a", "[[0 1] [1 1]] [0 1] [0 1]"}, {"^a", "[[1 2] [1 1] [2 2]] [0 0 1] [0 0 1]"}, {"a$", "[[0 1] [0 1]] [0 0] [0 1]"}, {".", "[[1 0] [1 1]] [0 1] [0 1]"},
	} {
		l := made(t, united(t, c.p))
		if got := fmt.Sprint(l.Next, l.Found, l.Ends); got != c.want {
			t.Errorf("%q: %s, want %s", c.p, got, c.want)
		}
	}
}

// P11.1, P11.4: patterns that take the same have one and the same least table.
func TestEqualPatterns(t *testing.T) {
	for _, list := range [][]string{
		{"a|b", "[ab]", "b|a", "(a)|b{1}", "a+|b", "[ab][ab]*"}, {"", "a*", "()", "a{0}", "b?", "(a|)"}, {"(a|b)*abb$", "abb$", "[ab]*abb$"}, {"^(a|b)*$", "^([ab]|aa|ba)*$", "^a*(ba*)*$"}, {"^$", "^()$", "^(a{0})$", "^$$"}, {"a^", "$a", "a^b", "b$a"}, {"a{2,3}", "aa", "a{2}", "a{2,}"}, {"^a{1,3}$", "^aa?a?$", "^(a|aa|aaa)$"},
	} {
		first := united(t, list[0])
		for _, p := range list[1:] {
			d := united(t, p)
			wantMade(t, d, made(t, first))
			wantSame(t, first, d, -1)
		}
	}
}

// P11.1, P11.2, P11.4: unions of many rules.
func TestManyRules(t *testing.T) {
	var ends, other, letters []string
	for k := range api.MaxRules {
		ends = append(ends, fmt.Sprintf("^x{%d}$", k))
		other = append(other, fmt.Sprintf("^(x{%d}|x{%d}(x|y)y*x{40}z)$", k, k)) // the same up to more than 40 bytes
		letters = append(letters, fmt.Sprintf("^%c+y", "ABCDEFGHIJKLMNOPQRSTUVWXYZ012345"[k]))
	}
	d := united(t, ends...)
	l := made(t, d)
	if len(l.Next) != 33 || len(l.Next[0]) != 2 { // behind each of up to 31 x, and behind all else
		t.Errorf("%s", tell(l))
	}
	wantSame(t, d, l, -1)
	wantSame(t, d, united(t, other...), 42)
	turned := slices.Clone(ends)
	turned[0], turned[1] = turned[1], turned[0]
	wantSame(t, d, united(t, turned...), 0)
	turned = slices.Clone(ends)
	turned[30], turned[31] = turned[31], turned[30]
	wantSame(t, d, united(t, turned...), 30)
	w := united(t, letters...)
	l = made(t, w)
	if len(l.Next) != 1+1+32+32 || len(l.Next[0]) != 34 { // the beginning, none any more, a row of each letter, met
		t.Errorf("%d states, %d classes", len(l.Next), len(l.Next[0]))
	}
	wantSame(t, w, l, -1)
	wantSame(t, w, d, 0)
	wantSlow(t, united(t, "err|warn", "^$", "[0-9]{3}", "x$", "^x", "(^|a)b"))
	wantSame(t, united(t, "a", "b"), united(t, "b", "a"), 1)
	wantSame(t, united(t, "a", "b"), united(t, "a", "b", "a^"), -1)
	wantSame(t, united(t, "a", "b"), united(t, "a", "b", "ab$"), 2)
}

// wantLeast asks a least table for what follows of it: it fits, has no more states than the table, none of them alike, all met, tells of rows of bytes what the table tells, and is its own least table.
func wantLeast(t *testing.T, c chooser, d api.DFA) api.DFA {
	t.Helper()
	l := made(t, d)
	if !subset.Right(l) || len(l.Next) > len(d.Next) || len(l.Next[0]) > len(d.Next[0]) {
		t.Fatalf("Make(%s) = %s", tell(d), tell(l))
	}
	if again := made(t, l); !sameTable(again, l) {
		t.Fatalf("the least table of %s is %s", tell(l), tell(again))
	}
	for range 30 {
		row := c.row(20)
		s, r := behind(d, 0, row), behind(l, 0, row)
		if d.Found[s] != l.Found[r] || d.Ends[s] != l.Ends[r] {
			t.Fatalf("%s tells of %q %d, %d; its least table %s %d, %d", tell(d), row, d.Found[s], d.Ends[s], tell(l), l.Found[r], l.Ends[r])
		}
	}
	wantSame(t, d, l, -1)
	return l
}

// P11.4: what follows, for tables by chance, small ones and great ones.
func TestFollows(t *testing.T) {
	c := chance(112)
	for range 1500 {
		wantLeast(t, c, c.table(1+c.Intn(60), 1+c.Intn(9)))
	}
	for range 40 {
		wantLeast(t, c, c.blown(c.table(1+c.Intn(80), 1+c.Intn(20)), 1+c.Intn(12)))
	}
	for _, p := range anchored() {
		wantLeast(t, c, united(t, p))
	}
}

// byteClasses is a table with one class a byte.
func byteClasses(d api.DFA) api.DFA {
	o := api.DFA{Found: d.Found, Ends: d.Ends}
	for b := range o.Class {
		o.Class[b] = 255 - b
	}
	for s := range d.Next {
		next := make([]int, 256)
		for b := range next {
			next[255-b] = to(d, s, byte(b))
		}
		o.Next = append(o.Next, next)
	}
	return o
}

// P11.4: tables with states twice, with other numbers, with more classes, with one class a byte have one and the same least table; and Same tells true.
func TestOneLeastTable(t *testing.T) {
	c := chance(113)
	for range 400 {
		d := c.table(1+c.Intn(30), 1+c.Intn(9))
		l := made(t, d)
		for _, other := range []api.DFA{c.blown(d, 1), c.blown(d, 2), c.blown(d, 7), c.blown(l, 3), byteClasses(d), byteClasses(c.blown(d, 2))} {
			wantMade(t, other, l)
			wantSame(t, d, other, -1)
		}
	}
	for _, p := range anchored() {
		d := united(t, p)
		wantMade(t, c.blown(d, 5), made(t, d))
		wantMade(t, byteClasses(d), made(t, d))
	}
}

// changed is a table with one number changed, or with nothing in Found, and with all that this needs to fit.
func (c chooser) changed(d api.DFA) api.DFA {
	o := copied(d)
	s := c.Intn(len(d.Next))
	switch c.Intn(6) {
	case 0:
		o.Ends[s] ^= 1 << c.Intn(3)
	case 1:
		o.Found[s] ^= 1 << c.Intn(3)
	case 2:
		o.Next[s][c.Intn(len(o.Next[s]))] = c.Intn(len(d.Next))
	case 3:
		o.Class[c.Intn(256)] = c.Intn(len(o.Next[s]))
	case 4:
		o.Class['\n'] = c.Intn(len(o.Next[s]))
	case 5:
		clear(o.Found)
	}
	return fitted(o)
}

// P11.4: the least tables of two tables are the same just if their first states are alike; P11.2: the line is as short as there is one, with no newline in it.
func TestTwoTables(t *testing.T) {
	c := chance(114)
	alike, told := 0, map[int]int{}
	for range 2500 {
		a := c.table(1+c.Intn(10), 1+c.Intn(3))
		b := c.changed(c.blown(a, 1+c.Intn(3)))
		if c.Intn(5) == 0 {
			b = c.table(1+c.Intn(10), 1+c.Intn(3))
		}
		if !subset.Right(a) || !subset.Right(b) {
			t.Fatalf("%s, %s", tell(a), tell(b))
		}
		one := slowAlike(a, b)[0][0]
		if got := sameTable(made(t, a), made(t, b)); got != one {
			t.Fatalf("%s, %s: alike: %v, least tables %s, %s", tell(a), tell(b), one, tell(made(t, a)), tell(made(t, b)))
		}
		bytes := wantSameSlow(t, a, b)
		if one && bytes >= 0 {
			t.Fatalf("%s, %s are alike, and told apart", tell(a), tell(b))
		}
		if one {
			alike++
		} else {
			told[bytes]++
		}
	}
	if alike < 200 || told[-1] < 30 || told[0] < 100 || told[1] < 100 || told[2] < 50 || told[3] < 10 {
		t.Errorf("alike %d, told apart %v: the test tells too little", alike, told)
	}
}

// P11.2: lines that tell two tables apart are many bytes long, and by chance there are ways to the same states of several lengths.
func TestLongLines(t *testing.T) {
	c := chance(115)
	longest := 0
	for range 1500 {
		n := 2 + c.Intn(30)
		d := table("ab", nil, words(n), words(n))
		for s := range n { // 'a' goes on, all else falls back anywhere
			d.Next = append(d.Next, []int{c.Intn(s + 1), (s + 1) % n, c.Intn(s + 1)})
		}
		d.Ends[n-1] = 1
		o := c.blown(d, 1+c.Intn(2))
		for range 1 + c.Intn(2) {
			o = c.changed(o)
		}
		longest = max(longest, wantSameSlow(t, d, o))
	}
	if longest < 20 {
		t.Errorf("the longest line had %d bytes: the test tells too little", longest)
	}
}

// P11.2: what newlines alone tell apart isn't told, nor is what comes behind one; but a byte that has the newline's class tells, and is told in its place.
func TestNewlines(t *testing.T) {
	quiet := table("", [][]int{{0}}, words(1), words(1))
	for _, next := range [][][]int{{{0, 1}, {1, 1}}, {{0, 1}, {0, 0}}, {{0, 1}, {1, 0}}} {
		d := table("\n", next, words(2), []uint32{0, 1})
		wantSame(t, d, quiet, -1)
		if sameTable(made(t, d), made(t, quiet)) || len(made(t, d).Next) != 2 {
			t.Errorf("Make(%s) = %s", tell(d), tell(made(t, d)))
		}
		for b := range 256 {
			if b != '\n' {
				d.Class = [256]int{'\n': 1}
				d.Class[b] = 1
				wantSame(t, d, quiet, 1)
				if _, line, _ := least.Same(d, quiet); line != string([]byte{byte(b)}) {
					t.Errorf("%q, want the byte %d", line, b)
				}
			}
		}
	}
	// the newline is the shorter way
	way := table("\na", [][]int{{0, 3, 1}, {0, 3, 2}, {0, 3, 3}, {3, 3, 3}}, words(4), []uint32{0, 0, 0, 1})
	wantSame(t, way, quiet, 3)
	if _, line, _ := least.Same(way, quiet); line != "aaa" {
		t.Errorf("%q", line)
	}
	// the newline has a class of its own in the one, not in the other
	dot, all := united(t, "."), table("", [][]int{{1}, {1}}, []uint32{0, 1}, []uint32{0, 1})
	wantSame(t, dot, all, -1)
	// all bytes but the newline have one class
	most := api.DFA{Class: [256]int{'\n': 1}, Next: [][]int{{0, 1}, {2, 1}, {2, 2}}, Found: words(3), Ends: []uint32{0, 0, 1}}
	wantSame(t, most, quiet, -1)
}

// P11.2: what Found tells isn't met by a run.
func TestFoundAlone(t *testing.T) {
	a := table("a", [][]int{{0, 1}, {1, 1}}, []uint32{0, 1}, []uint32{0, 1})
	b := table("a", [][]int{{0, 1}, {1, 1}}, []uint32{0, 0}, []uint32{0, 1})
	wantSame(t, a, b, -1)
	if sameTable(made(t, a), made(t, b)) {
		t.Errorf("tables that tell Found otherwise have one least table")
	}
	wantSame(t, united(t, ""), united(t, "$"), -1)
	if sameTable(made(t, united(t, "")), made(t, united(t, "$"))) {
		t.Errorf("\"\" and \"$\" have one least table")
	}
}

// P11.2: Same of a table and itself.
func TestSameItself(t *testing.T) {
	c := chance(116)
	for range 300 {
		d := c.table(1+c.Intn(40), 1+c.Intn(9))
		wantSame(t, d, d, -1)
		wantSame(t, d, copied(d), -1)
	}
}

// roomy is a table whose lists have room behind them, in which other numbers stand; and all of that room.
func roomy(d api.DFA) (api.DFA, api.DFA) {
	whole := copied(d)
	for s := range whole.Next {
		whole.Next[s] = append(whole.Next[s], 77, 78)
	}
	whole.Next = append(whole.Next, []int{79}, []int{80})
	whole.Found = append(whole.Found, 81, 82)
	whole.Ends = append(whole.Ends, 83, 84)
	front := api.DFA{Class: d.Class, Found: whole.Found[:len(d.Found)], Ends: whole.Ends[:len(d.Ends)]}
	next := make([][]int, 0, len(whole.Next))
	for s := range d.Next {
		next = append(next, whole.Next[s][:len(d.Next[s])])
	}
	front.Next = append(next, whole.Next[len(d.Next):]...)[:len(d.Next)]
	return front, whole
}

// P11.3: what is handed in is not changed, nor the room behind it.
func TestHandedInStays(t *testing.T) {
	c := chance(117)
	for range 400 {
		a, roomA := roomy(c.table(1+c.Intn(12), 1+c.Intn(5)))
		b, roomB := roomy(c.table(1+c.Intn(12), 1+c.Intn(5)))
		wasA, wasB := copied(roomA), copied(roomB)
		least.Make(a)
		least.Make(b)
		least.Same(a, b)
		least.Same(b, a)
		least.Same(a, api.DFA{})
		if !sameTable(roomA, wasA) || !sameTable(roomB, wasB) {
			t.Fatalf("%s, was %s; %s, was %s", tell(roomA), tell(wasA), tell(roomB), tell(wasB))
		}
		if room := a.Next[:cap(a.Next)]; len(room) < len(a.Next)+2 || room[len(a.Next)][0] != 79 || room[len(a.Next)+1][0] != 80 {
			t.Fatalf("the room behind Next was changed")
		}
	}
}

// spoil writes into a table's lists, and into the room behind them.
func spoil(d api.DFA) {
	for _, list := range d.Next[:cap(d.Next)] {
		list = list[:cap(list)]
		for i := range list {
			list[i] = -9
		}
	}
	for _, list := range [][]uint32{d.Found[:cap(d.Found)], d.Ends[:cap(d.Ends)]} {
		for i := range list {
			list[i] = 99
		}
	}
	clear(d.Next[:cap(d.Next)])
}

// P11.3: what is handed in is not kept: what is written into it behind the call changes neither that answer nor a later one; also where a table is its own least table.
func TestNothingIsKept(t *testing.T) {
	c := chance(118)
	for range 300 {
		d := c.table(1+c.Intn(12), 1+c.Intn(5))
		for _, d := range []api.DFA{d, made(t, d)} {
			whole := copied(d)
			l := made(t, d)
			want := copied(l)
			yes, line, e := least.Same(d, l)
			spoil(d)
			if !sameTable(l, want) || !sameTable(made(t, whole), want) {
				t.Fatalf("Make(%s) is %s by now, was %s", tell(whole), tell(l), tell(want))
			}
			if again, more, f := least.Same(whole, l); !yes || line != "" || e != api.OK || again != yes || more != line || f != e {
				t.Fatalf("Same(%s, %s): %v, %q, %d", tell(whole), tell(l), again, more, f)
			}
		}
	}
}

// P11.3: what is answered is new memory: its lists share none, the room behind them neither; and writing into one changes no later answer, and not what was handed in.
func TestNewMemory(t *testing.T) {
	c := chance(119)
	for range 300 {
		d := c.table(1+c.Intn(12), 1+c.Intn(5))
		for _, d := range []api.DFA{d, made(t, d)} {
			was := copied(d)
			l, other := made(t, d), made(t, d)
			want := copied(l)
			for s := range l.Next { // each list in turn, the others must stay
				list := l.Next[s][:cap(l.Next[s])]
				for i := range list {
					list[i] = -9
				}
				for later := s + 1; later < len(l.Next); later++ {
					if !slices.Equal(l.Next[later], want.Next[later]) {
						t.Fatalf("the lists %d and %d share memory", s, later)
					}
				}
			}
			found, ends := l.Found[:cap(l.Found)], l.Ends[:cap(l.Ends)]
			for i := range found {
				found[i] = 99
			}
			if !slices.Equal(l.Ends, want.Ends) {
				t.Fatalf("Found and Ends share memory")
			}
			for i := range ends {
				ends[i] = 77
			}
			if slices.ContainsFunc(found, func(word uint32) bool { return word != 99 }) {
				t.Fatalf("Found and Ends share memory")
			}
			spoil(l)
			if !sameTable(d, was) || !sameTable(other, want) || !sameTable(made(t, d), want) {
				t.Fatalf("written into an answer: %s is by now %s, its least table %s", tell(was), tell(d), tell(other))
			}
		}
	}
}

// P11.5: no call panics, whatever it is given.
func TestNoPanic(t *testing.T) {
	c := chance(120)
	numbers := []int{math.MinInt, -1, 0, 0, 0, 0, 0, 0, 0, 0, 0, 0, 0, 1, 1, 1, 1, 1, 2, 2, 4096, math.MaxInt}
	any := func() api.DFA {
		var d api.DFA
		n := c.Intn(4)
		for range n {
			var next []int
			for range 1 + c.Intn(2)*c.Intn(2)*c.Intn(2) {
				next = append(next, numbers[c.Intn(len(numbers))])
			}
			d.Next = append(d.Next, next)
		}
		for range n + c.Intn(2)*c.Intn(2) {
			d.Found = append(d.Found, c.Uint32()&c.Uint32()&-uint32(c.Intn(9)/8))
		}
		for range n + c.Intn(2)*c.Intn(2) {
			d.Ends = append(d.Ends, c.Uint32()|c.Uint32()|c.Uint32())
		}
		if c.Intn(3) == 0 {
			d.Class[c.Intn(256)] = numbers[c.Intn(len(numbers))]
		}
		return d
	}
	fit := 0
	for range 50_000 {
		a, b := any(), any()
		rightA, rightB := subset.Right(a), subset.Right(b)
		l, e := least.Make(a)
		if (e == api.ErrMachine) == rightA || e == api.OK && !sameTable(l, slowMake(a)) || e != api.OK && !sameTable(l, api.DFA{}) {
			t.Fatalf("Make(%s) = %s, %d", tell(a), tell(l), e)
		}
		yes, line, e := least.Same(a, b)
		if (e == api.ErrMachine) == (rightA && rightB) || e != api.OK && (yes || line != "") {
			t.Fatalf("Same(%s, %s) = %v, %q, %d", tell(a), tell(b), yes, line, e)
		}
		if rightA && rightB {
			wantSameSlow(t, a, b)
			fit++
		}
	}
	if fit < 500 {
		t.Errorf("%d pairs of tables fit: the test tells too little", fit)
	}
}
