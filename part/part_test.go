package part_test

import (
	"fmt"
	"math"
	"slices"
	"sync"
	"testing"
	"time"

	"heron/api"
	"heron/ere"
	"heron/nfa"
	"heron/octets"
	"heron/part"
)

// bytesOf is the Set of some bytes.
func bytesOf(bytes ...int) api.Set {
	var a api.Set
	for _, b := range bytes {
		a[b/64] |= 1 << (b % 64)
	}
	return a
}

// bytesBut is the Set of all bytes but some: the newline too.
func bytesBut(bytes ...int) api.Set {
	a := bytesOf(bytes...)
	for i := range a {
		a[i] = ^a[i]
	}
	return a
}

// row is the Set of the bytes from one to another one.
func row(from, to int) api.Set {
	var l []int
	for b := from; b <= to; b++ {
		l = append(l, b)
	}
	return bytesOf(l...)
}

// bitSets is the 8 sets of the bytes whose k-th bit is on.
func bitSets() []api.Set {
	var l []api.Set
	for k := range 8 {
		var bytes []int
		for b := range 256 {
			if b>>k&1 == 1 {
				bytes = append(bytes, b)
			}
		}
		l = append(l, bytesOf(bytes...))
	}
	return l
}

// singles is so many sets of one byte each, from a byte on.
func singles(from, n int) []api.Set {
	var l []api.Set
	for i := range n {
		l = append(l, bytesOf((from+i)%256))
	}
	return l
}

// takes is an edge that takes a byte of a set.
func takes(a api.Set) api.Edge { return api.Edge{Kind: api.EdgeByte, Set: a} }

// machine is a machine of edges alone.
func machine(edges ...api.Edge) api.NFA {
	return api.NFA{States: 1, Edges: edges, Rules: []uint32{0}}
}

// classesBy is 256 numbers, each told by a function.
func classesBy(of func(b int) int) [256]int {
	var class [256]int
	for b := range class {
		class[b] = of(b)
	}
	return class
}

// wantClasses asks for the classes of some sets.
func wantClasses(t *testing.T, want [256]int, count int, sets ...api.Set) {
	t.Helper()
	class, n := part.Classes(sets...)
	if class != want || n != count {
		t.Errorf("Classes(%x) = %v, %d, want %v, %d", sets, class, n, want, count)
	}
}

// wantSlow asks for the classes of some sets as the words tell them.
func wantSlow(t *testing.T, sets ...api.Set) {
	t.Helper()
	want, count := slowClasses(sets)
	wantClasses(t, want, count, sets...)
}

// wantMembers asks for a class's bytes.
func wantMembers(t *testing.T, class [256]int, c int) {
	t.Helper()
	got, want := part.Members(class, c), slowMembers(class, c)
	for b := range 256 {
		if slowHas(got, b) != want[b] {
			t.Errorf("Members(%v, %d) has byte %d: %v, want %v", class, c, b, slowHas(got, b), want[b])
			return
		}
	}
}

// wantSets asks for a machine's sets.
func wantSets(t *testing.T, m api.NFA, want ...api.Set) {
	t.Helper()
	if got := part.Sets(m); !slices.Equal(got, want) {
		t.Errorf("Sets(%v) = %x, want %x", m, got, want)
	}
}

// The chapter's examples, one by one.
func TestExamples(t *testing.T) {
	all := [256]int{}
	onlyA := classesBy(func(b int) int {
		if b == 'a' {
			return 1
		}
		return 0
	})
	notZero := classesBy(func(b int) int { return min(b, 1) })
	wantClasses(t, all, 1)
	wantClasses(t, onlyA, 2, octets.Of('a'))
	wantClasses(t, notZero, 2, octets.Of(0))
	wantClasses(t, all, 1, octets.Span(0, 255))
	wantClasses(t, all, 1, octets.Of())
	two := classesBy(func(b int) int {
		switch {
		case 'a' <= b && b <= 'f':
			return 1
		case 'g' <= b && b <= 'm':
			return 2
		case 'n' <= b && b <= 'z':
			return 3
		}
		return 0
	})
	wantClasses(t, two, 4, octets.Span('a', 'm'), octets.Span('g', 'z'))
	wantClasses(t, two, 4, octets.Span('g', 'z'), octets.Span('a', 'm'))
	wantClasses(t, classesBy(func(b int) int { return b }), 256, bitSets()...)
	if got := part.Members(two, 2); got != octets.Span('g', 'm') {
		t.Errorf("Members of class 2 = %x", got)
	}
	for _, c := range []int{4, -1} {
		if got := part.Members(two, c); got != (api.Set{}) {
			t.Errorf("Members of class %d = %x, want none", c, got)
		}
	}
	a, b := octets.Of('a'), octets.Of('b')
	wantSets(t, machine(api.Edge{Kind: api.EdgeFree}, takes(a), api.Edge{Kind: api.EdgeBegin}, takes(b), takes(a)), a, b)
}

// P9.1: no set, the empty one and that of all bytes tell nothing apart, alone, together, or beside others.
func TestSetsThatTellNothing(t *testing.T) {
	none, all := api.Set{}, bytesBut()
	for _, l := range [][]api.Set{nil, {}, {none}, {all}, {none, all}, {all, none}, {none, none, all, all, none}, slices.Repeat([]api.Set{none, all}, 100)} {
		wantClasses(t, [256]int{}, 1, l...)
		for _, a := range []api.Set{bytesOf(0), bytesOf(10), bytesOf(255), row('a', 'm')} {
			class, n := part.Classes(a)
			wantClasses(t, class, n, append(slices.Clone(l), a)...)
			wantClasses(t, class, n, append([]api.Set{a}, l...)...)
		}
	}
}

// P9.1: every byte alone, and all bytes but one; the newline, byte 0 and byte 255 are bytes as all others.
func TestEachByte(t *testing.T) {
	for b := range 256 {
		want := classesBy(func(i int) int {
			if (i == b) != (b == 0) { // byte 0 always has the class 0
				return 1
			}
			return 0
		})
		wantClasses(t, want, 2, bytesOf(b))
		wantClasses(t, want, 2, bytesBut(b))
		wantClasses(t, want, 2, bytesOf(b), bytesBut(b))
	}
}

// P9.1: each two bytes, in one set and in two.
func TestEachTwoBytes(t *testing.T) {
	for _, a := range []int{0, 1, 9, 10, 11, 63, 64, 65, 127, 128, 191, 192, 254, 255} {
		for b := range 256 {
			wantSlow(t, bytesOf(a, b))
			wantSlow(t, bytesOf(a), bytesOf(b))
			wantSlow(t, bytesBut(a), bytesOf(b))
		}
	}
}

// P9.1: each row of bytes that begins or ends at an edge of a set's words, and two that overlap.
func TestRows(t *testing.T) {
	edges := []int{0, 1, 10, 62, 63, 64, 65, 127, 128, 129, 191, 192, 193, 254, 255}
	for _, from := range edges {
		for _, to := range edges {
			wantSlow(t, row(from, to))
			wantSlow(t, row(from, to), row(to, from), row(60, 200))
			wantSlow(t, row(0, from), row(to, 255))
		}
	}
}

// P9.1: classes are numbered as they are met from byte 0 on, not by the sets: a set of a high byte that stands first gets no low number.
func TestNumberedAsMet(t *testing.T) {
	want := classesBy(func(b int) int {
		switch b {
		case 3:
			return 1
		case 70:
			return 2
		case 140:
			return 3
		case 250:
			return 4
		}
		return 0
	})
	sets := []api.Set{bytesOf(250), bytesOf(3), bytesOf(140), bytesOf(70)}
	orders(sets, func(l []api.Set) { wantClasses(t, want, 5, l...) })
	late := classesBy(func(b int) int { return min(max(b-253, 0), 2) })
	wantClasses(t, late, 3, bytesOf(255), bytesOf(254))
	wantClasses(t, late, 3, bytesOf(254, 255), bytesOf(255))
	early := classesBy(func(b int) int { return min(b, 2) })
	wantClasses(t, early, 3, bytesOf(1), bytesOf(0))
	wantClasses(t, early, 3, bytesOf(0), bytesOf(0, 1))
}

// orders hands on a list in each of its orders.
func orders(l []api.Set, with func([]api.Set)) {
	if len(l) == 0 {
		with(nil)
		return
	}
	for i, first := range l {
		rest := slices.Delete(slices.Clone(l), i, i+1)
		orders(rest, func(other []api.Set) { with(append([]api.Set{first}, other...)) })
	}
}

// P9.1: the sets' order, and one that stands twice or often, change nothing.
func TestOrderAndTwice(t *testing.T) {
	c := chance(91)
	for range 300 {
		l := c.sets(40)
		want, n := part.Classes(l...)
		mixed := slices.Concat(l, c.some(l))
		c.Shuffle(len(mixed), func(i, k int) { mixed[i], mixed[k] = mixed[k], mixed[i] })
		wantClasses(t, want, n, mixed...)
		slices.Reverse(mixed)
		wantClasses(t, want, n, mixed...)
		wantClasses(t, want, n, slices.Repeat(l, 5)...)
	}
}

// some is some of a list's sets, each as often as chance says.
func (c chooser) some(l []api.Set) []api.Set {
	var out []api.Set
	for range c.Intn(70) {
		if len(l) > 0 {
			out = append(out, l[c.Intn(len(l))])
		}
	}
	return out
}

// P9.1: any number of sets, also far more than a word has bits: what each of them tells apart counts, the first as well as the last.
func TestManySets(t *testing.T) {
	for _, n := range []int{1, 2, 7, 8, 9, 31, 32, 33, 62, 63, 64, 65, 66, 126, 127, 128, 129, 130, 191, 192, 193, 254, 255, 256, 257, 300, 511, 512, 513, 1000} {
		wantSlow(t, singles(0, n)...)
		wantSlow(t, singles(1, n)...)
		wantSlow(t, singles(100, n)...)
		fill := slices.Repeat([]api.Set{{}}, n)
		wantSlow(t, append(slices.Clone(fill), bytesOf('a'))...)
		wantSlow(t, append([]api.Set{bytesOf('a')}, fill...)...)
		wantSlow(t, append(append([]api.Set{bytesOf('a')}, fill...), bytesOf('b'))...)
		wantSlow(t, append(append([]api.Set{bytesOf('a', 'b')}, fill...), bytesOf('b', 'c'))...)
	}
}

// P9.1: of many sets each one alone tells something apart, wherever it stands among such as tell nothing.
func TestEachPlaceAmongMany(t *testing.T) {
	for n := range 200 {
		l := slices.Repeat([]api.Set{bytesBut()}, 200)
		l[n] = bytesOf(200)
		want, count := part.Classes(bytesOf(200))
		wantClasses(t, want, count, l...)
	}
}

// P9.1: the eight sets of bits, in other orders, turned about, and with one of them away.
func TestBits(t *testing.T) {
	each := classesBy(func(b int) int { return b })
	bits := bitSets()
	c := chance(8)
	for range 20 {
		c.Shuffle(8, func(i, k int) { bits[i], bits[k] = bits[k], bits[i] })
		wantClasses(t, each, 256, bits...)
		wantSlow(t, bits[1:]...)
	}
	for i := range bits {
		bits[i] = api.Set{^bits[i][0], ^bits[i][1], ^bits[i][2], ^bits[i][3]}
	}
	wantClasses(t, each, 256, bits...)
	wantClasses(t, each, 256, append(bits, singles(0, 256)...)...)
}

// P9.1: sets by chance, few and many, as the words tell them.
func TestClassesByChance(t *testing.T) {
	c := chance(9)
	for i := range 600 {
		wantSlow(t, c.sets([]int{1, 2, 3, 5, 20, 150}[i%6])...)
	}
}

// P9.2: Members of the classes of sets, of those that no byte has, and of numbers by chance.
func TestMembers(t *testing.T) {
	c := chance(92)
	for range 100 {
		class, n := part.Classes(c.sets(6)...)
		for k := -2; k < n+3; k++ {
			wantMembers(t, class, k)
		}
		any := classesBy(func(int) int { return c.Intn(7) - 3 })
		for k := -5; k < 6; k++ {
			wantMembers(t, any, k)
		}
	}
}

// P9.2: any numbers: negative ones, the least and the greatest, such as are alike in their low halves.
func TestMembersAnyNumbers(t *testing.T) {
	odd := []int{math.MinInt, math.MinInt + 1, math.MinInt32, math.MinInt32 - 1, -256, -2, -1, 0, 1, 2, 255, 256, 1 << 16, math.MaxInt32, 1 << 31, 1 << 32, 1<<32 + 1, 1 << 62, math.MaxInt - 1, math.MaxInt}
	mixed := classesBy(func(b int) int { return odd[b%len(odd)] })
	for _, c := range odd {
		wantMembers(t, mixed, c)
		wantMembers(t, classesBy(func(int) int { return c }), c)
		wantMembers(t, [256]int{}, c)
		wantMembers(t, [256]int{c}, c)
		wantMembers(t, [256]int{255: c}, c)
		wantMembers(t, [256]int{10: c}, c)
	}
	for b := range 256 {
		wantMembers(t, classesBy(func(b int) int { return b }), b)
		wantMembers(t, classesBy(func(b int) int { return -b }), b)
	}
}

// P9.3: no edge, none that takes a byte, the empty set, the set of all bytes.
func TestFewSets(t *testing.T) {
	wantSets(t, api.NFA{})
	wantSets(t, api.NFA{Edges: []api.Edge{}})
	wantSets(t, machine(api.Edge{Kind: api.EdgeFree}, api.Edge{Kind: api.EdgeBegin}, api.Edge{Kind: api.EdgeEnd}))
	wantSets(t, machine(takes(api.Set{})), api.Set{})
	wantSets(t, machine(takes(api.Set{}), takes(api.Set{})), api.Set{})
	wantSets(t, machine(takes(bytesBut())), bytesBut())
	wantSets(t, machine(takes(bytesOf('a')), takes(api.Set{}), takes(bytesBut())), bytesOf('a'), api.Set{}, bytesBut())
}

// P9.3: an edge of another kind has no part in it, whatever its Set has, and whatever number its kind is; nor does it keep a later edge of that Set from being told.
func TestOtherKinds(t *testing.T) {
	a, b := bytesOf('a'), bytesOf('b')
	for _, kind := range []int{api.EdgeFree, api.EdgeBegin, api.EdgeEnd, 0, 5, 6, 9, -1, -2, 2 + 1<<8, 2 + 1<<32, math.MinInt, math.MaxInt} {
		other := api.Edge{Kind: kind, Set: a}
		wantSets(t, machine(other))
		wantSets(t, machine(other, other, takes(b)), b)
		wantSets(t, machine(other, takes(b), takes(a)), b, a)
		wantSets(t, machine(takes(a), other, takes(b)), a, b)
	}
}

// P9.3: the order is that of the edges, each value where it stands first; sets that differ in one byte are two.
func TestSetsOrder(t *testing.T) {
	a, b, c := bytesOf('a'), bytesOf('b'), bytesOf('a', 'b')
	wantSets(t, machine(takes(b), takes(a)), b, a)
	wantSets(t, machine(takes(c), takes(b), takes(c), takes(a), takes(b), takes(c)), c, b, a)
	wantSets(t, machine(takes(a), takes(a), takes(a)), a)
	var edges []api.Edge
	var want []api.Set
	for i := range 256 {
		edges = append(edges, takes(bytesOf(255-i)), takes(bytesBut(i)), takes(bytesOf(255)))
		want = append(want, bytesOf(255-i), bytesBut(i))
	}
	wantSets(t, machine(edges...), want...)
	wantSets(t, machine(slices.Repeat(edges, 3)...), want...)
}

// P9.3: what else the machine has is not looked at; it need not fit.
func TestSetsOfAnyMachine(t *testing.T) {
	a, b := bytesOf('a'), bytesOf('b')
	edges := []api.Edge{
		{Kind: api.EdgeByte, From: -1, To: 99, Set: a},
		{Kind: api.EdgeByte, From: math.MaxInt, To: math.MinInt, Set: b},
		{Kind: api.EdgeByte, From: 3, To: 4, Set: a},
	}
	for _, states := range []int{0, 1, 2, -1, math.MinInt, math.MaxInt} {
		for _, rules := range [][]uint32{nil, {}, {0}, {1, 2}, {math.MaxUint32}} {
			wantSets(t, api.NFA{States: states, Rules: rules})
			wantSets(t, api.NFA{States: states, Edges: edges, Rules: rules}, a, b)
		}
	}
}

// P9.3: machines by chance as the words tell them, and machines of patterns.
func TestSetsByChance(t *testing.T) {
	c := chance(93)
	for range 1000 {
		m := c.machine(40)
		wantSets(t, m, slowSets(m)...)
	}
	for p, want := range map[string][]api.Set{
		"":               nil,
		"^$":             nil,
		"abca":           {bytesOf('a'), bytesOf('b'), bytesOf('c')},
		"[a-m]x[g-z]":    {row('a', 'm'), bytesOf('x'), row('g', 'z')},
		"(.|a)*[^b]?":    {bytesBut('\n'), bytesOf('a'), bytesBut('\n', 'b')},
		"b{3}|(a|b){2,}": {bytesOf('b'), bytesOf('a')},
	} {
		tree, _, e := ere.Parse(p)
		if e != api.OK {
			t.Fatalf("Parse(%q): %d", p, e)
		}
		m, e := nfa.Build(tree, 0)
		if e != api.OK {
			t.Fatalf("Build(%q): %d", p, e)
		}
		wantSets(t, m, want...)
	}
}

// P9.4: two bytes have one class just if each of the sets has both or none; each set is the joined Members of its bytes' classes; the Members of all classes have every byte once.
func TestWhatFollows(t *testing.T) {
	c := chance(94)
	for i := range 120 {
		sets := c.sets([]int{2, 6, 100}[i%3])
		class, n := part.Classes(sets...)
		for a := range 256 {
			for b := range a {
				if (class[a] == class[b]) == slowApart(sets, a, b) {
					t.Fatalf("Classes(%x): bytes %d and %d have %d and %d", sets, a, b, class[a], class[b])
				}
			}
		}
		for _, a := range sets {
			var pieces []api.Set
			for b := range 256 {
				if slowHas(a, b) {
					pieces = append(pieces, part.Members(class, class[b]))
				}
			}
			if octets.Join(pieces...) != a {
				t.Fatalf("Classes(%x): %x is not the joined Members of its bytes' classes", sets, a)
			}
		}
		wantEachOnce(t, class, n)
	}
}

// wantEachOnce asks whether the Members of all classes have every byte once, and whether none is empty.
func wantEachOnce(t *testing.T, class [256]int, n int) {
	t.Helper()
	var often [256]int
	for k := range n {
		members := part.Members(class, k)
		if members == (api.Set{}) {
			t.Fatalf("class %d of %d has no byte", k, n)
		}
		for b := range 256 {
			if slowHas(members, b) {
				often[b]++
			}
		}
	}
	if often != classesBy(func(int) int { return 1 }) {
		t.Fatalf("how often the Members of all classes have each byte: %v", often)
	}
}

// P9.4: with one set more no class grows, nor are there fewer.
func TestOneSetMore(t *testing.T) {
	c := chance(95)
	for range 40 {
		all := append(c.sets(150), c.set())
		before, n := part.Classes()
		for i := range all {
			class, more := part.Classes(all[:i+1]...)
			if more < n {
				t.Fatalf("one set more, and %d classes became %d", n, more)
			}
			for b := range 256 {
				now, was := part.Members(class, class[b]), part.Members(before, before[b])
				if octets.Meet(now, was) != now {
					t.Fatalf("one set more, and byte %d's class grew from %x to %x", b, was, now)
				}
			}
			before, n = class, more
		}
	}
}

// wipe writes something else into a list, its spare room too.
func wipe(l []api.Set) {
	l = l[:cap(l)]
	for i := range l {
		l[i] = api.Set{7, 7, 7, 7}
	}
}

// P9.4, W3: what is handed in is neither changed nor kept, nor the room behind it.
func TestHandedInStays(t *testing.T) {
	c := chance(96)
	for range 100 {
		room := append(c.sets(100), c.set(), c.set(), c.set())
		sets := room[: len(room)-3 : len(room)]
		before := slices.Clone(room)
		class, n := part.Classes(sets...)
		if !slices.Equal(room, before) {
			t.Fatal("Classes has changed what was handed in")
		}
		again := slices.Clone(sets)
		wipe(room)
		wantClasses(t, class, n, again...)
		wantEdgesStay(t, c.machine(50))
	}
	class, _ := part.Classes(bytesOf('a'))
	before := class
	part.Members(class, 1)
	if class != before {
		t.Error("Members has changed what was handed in")
	}
}

// wantEdgesStay asks whether Sets leaves a machine as it is, and keeps nothing of it.
func wantEdgesStay(t *testing.T, m api.NFA) {
	t.Helper()
	m.Edges = append(m.Edges, takes(bytesOf('x')), takes(bytesOf('y')))
	room := m.Edges
	m.Edges = room[: len(room)-1 : len(room)]
	edges, rules := slices.Clone(room), slices.Clone(m.Rules)
	got := part.Sets(m)
	if !slices.Equal(room, edges) || !slices.Equal(m.Rules, rules) {
		t.Fatal("Sets has changed what was handed in")
	}
	want := slices.Clone(got)
	for i := range room {
		room[i] = takes(bytesOf('z'))
	}
	if !slices.Equal(got, want) {
		t.Fatal("writing into the machine's edges has changed what Sets answered")
	}
	m.Edges = edges[:len(edges)-1]
	wantSets(t, m, want...)
}

// P9.4, W3: what is answered is new memory: writing into it changes nothing that is answered later or was answered ahead, its spare room too.
func TestAnswersNewMemory(t *testing.T) {
	for n := range 70 {
		var edges []api.Edge
		for _, a := range singles(1, n) {
			edges = append(edges, takes(a))
		}
		m := machine(edges...)
		first, second := part.Sets(m), part.Sets(m)
		wipe(first)
		if !slices.Equal(second, singles(1, n)) {
			t.Fatalf("two answers of %d sets share memory", n)
		}
		wantSets(t, m, singles(1, n)...)
		wipe(second)
		wantSets(t, m, singles(1, n)...)
		if !slices.Equal(m.Edges, edges) {
			t.Fatal("an answer shares memory with the machine")
		}
	}
	want, n := part.Classes(bytesOf('a'))
	other, _ := part.Classes(bytesOf('a'))
	for b := range other {
		other[b] = -1
	}
	members := part.Members(want, 1)
	members[0] = 99
	wantClasses(t, want, n, bytesOf('a'))
	wantMembers(t, want, 1)
}

// W1: every call ends soon, also with very many sets and edges, alike or not.
func TestEndsSoon(t *testing.T) {
	var many []api.Set
	var edges []api.Edge
	for i := range 100_000 {
		a := api.Set{uint64(i), uint64(i) * 0x9e3779b97f4a7c15, 0, uint64(i % 7)}
		many = append(many, a)
		edges = append(edges, takes(a))
	}
	soon(t, "Classes of 100000 sets", func() { part.Classes(many...) })
	soon(t, "Classes of one set 1000000 times", func() {
		want, n := part.Classes(bytesOf('a'))
		wantClasses(t, want, n, slices.Repeat([]api.Set{bytesOf('a')}, 1_000_000)...)
	})
	soon(t, "Sets of 100000 edges", func() { wantSets(t, machine(edges...), many...) })
	soon(t, "Sets of a million edges alike", func() {
		wantSets(t, machine(slices.Repeat([]api.Edge{takes(bytesOf('a'))}, 1_000_000)...), bytesOf('a'))
	})
	soon(t, "Members 100000 times", func() {
		for i := range 100_000 {
			part.Members([256]int{}, i-50_000)
		}
	})
}

func soon(t *testing.T, what string, do func()) {
	t.Helper()
	start := time.Now()
	do()
	if took := time.Since(start); took > 20*time.Second {
		t.Errorf("%s took %v", what, took)
	}
}

// W5: what is answered hangs on the arguments alone, whoever asks, however often, several at once.
func TestManyAtOnce(t *testing.T) {
	c := chance(97)
	sets, m := c.sets(100), c.machine(60)
	told := func() string {
		class, n := part.Classes(sets...)
		return fmt.Sprint(class, n, part.Members(class, 1), part.Sets(m))
	}
	want := told()
	answers := make([]string, 16)
	var all sync.WaitGroup
	for i := range answers {
		all.Go(func() {
			for range 20 {
				answers[i] = told()
			}
		})
	}
	all.Wait()
	for _, got := range answers {
		if got != want {
			t.Fatalf("answered %s, want %s", got, want)
		}
	}
}
