package nfa_test

import (
	"fmt"
	"math"
	"math/big"
	"slices"
	"strings"
	"sync"
	"testing"
	"time"

	"heron/api"
	"heron/deriv"
	"heron/ere"
	"heron/nfa"
	"heron/tree"
)

// set is NodeSet of some bytes.
func set(bytes string) api.Node {
	n := api.Node{Kind: api.NodeSet}
	for i := range len(bytes) {
		n.Set[bytes[i]/64] |= 1 << (bytes[i] % 64)
	}
	return n
}

// but is NodeSet of all bytes but some and the newline.
func but(bytes string) api.Node {
	n := set(bytes + "\n")
	for i := range n.Set {
		n.Set[i] = ^n.Set[i]
	}
	return n
}

func empty() api.Node               { return api.Node{Kind: api.NodeEmpty} }
func begin() api.Node               { return api.Node{Kind: api.NodeBegin} }
func end() api.Node                 { return api.Node{Kind: api.NodeEnd} }
func nothing() api.Node             { return api.Node{Kind: api.NodeSet} }
func seq(subs ...api.Node) api.Node { return api.Node{Kind: api.NodeSeq, Subs: subs} }
func alt(subs ...api.Node) api.Node { return api.Node{Kind: api.NodeAlt, Subs: subs} }
func maybe(t api.Node) api.Node     { return times(t, 0, 1) }
func star(t api.Node) api.Node      { return times(t, 0, -1) }
func once(t api.Node) api.Node      { return times(t, 1, 1) }
func most(t api.Node) api.Node      { return times(t, 255, 255) }

func times(sub api.Node, least, most int) api.Node {
	return api.Node{Kind: api.NodeTimes, Subs: []api.Node{sub}, Min: least, Max: most}
}

// some is a tree so many times.
func some(t api.Node, n int) []api.Node { return slices.Repeat([]api.Node{t}, n) }

// around is a tree with a way of laying one around it done so many times.
func around(t api.Node, n int, lay func(api.Node) api.Node) api.Node {
	for range n {
		t = lay(t)
	}
	return t
}

// same tells whether two nodes are the same, an empty list being the same as none.
func same(a, b api.Node) bool {
	return a.Kind == b.Kind && a.Set == b.Set && a.Min == b.Min && a.Max == b.Max && slices.EqualFunc(a.Subs, b.Subs, same)
}

// tell is a node as text.
func tell(t api.Node) string {
	if text, e := tree.Print(t); e == api.OK && !same(t, nothing()) {
		return fmt.Sprintf("%.200q", text)
	}
	var subs []string
	for _, sub := range t.Subs {
		subs = append(subs, tell(sub))
	}
	return fmt.Sprintf("%d%x[%s]%d,%d", t.Kind, t.Set, strings.Join(subs, " "), t.Min, t.Max)
}

// parsed is a pattern's tree.
func parsed(t *testing.T, p string) api.Node {
	t.Helper()
	n, at, e := ere.Parse(p)
	if e != api.OK {
		t.Fatalf("Parse(%q): %d at %d", p, e, at)
	}
	return n
}

// sameMachine tells whether two machines are the same.
func sameMachine(a, b api.NFA) bool {
	return a.States == b.States && slices.Equal(a.Edges, b.Edges) && slices.Equal(a.Rules, b.Rules)
}

// edgeText is an edge as the chapter's examples have it: f is free, ^ and $ the line's ends, else the bytes of its Set (- none).
func edgeText(e api.Edge) string {
	kind := map[int]string{api.EdgeFree: "f", api.EdgeBegin: "^", api.EdgeEnd: "$"}[e.Kind]
	for b := range 256 {
		if slowHas(e.Set, byte(b)) {
			kind += string([]byte{byte(b)})
		}
	}
	if kind == "" && e.Kind == api.EdgeByte {
		kind = "-"
	}
	return fmt.Sprintf("%s %d %d", kind, e.From, e.To)
}

// machineText is how many states a machine has, its edges, and its words that aren't 0.
func machineText(m api.NFA) string {
	text := fmt.Sprint(m.States)
	for i, e := range m.Edges {
		text += map[bool]string{true: ": ", false: ", "}[i == 0] + edgeText(e)
	}
	text += ";"
	for s, word := range m.Rules {
		if word != 0 {
			text += fmt.Sprintf(" %d at %d", word, s)
		}
	}
	return text
}

// wantMachine asks for the machine of a tree.
func wantMachine(t *testing.T, n api.Node, rule int, want string) {
	t.Helper()
	m, e := nfa.Build(n, rule)
	if got := machineText(m); got != want || len(m.Rules) != m.States || e != api.OK {
		t.Errorf("Build(%.200s, %d) = %.400s (%d words), %d, want %.400s", tell(n), rule, got, len(m.Rules), e, want)
	}
}

// wantRefused asks for the machine of a node that has none.
func wantRefused(t *testing.T, n api.Node, rule int, want api.Errno) {
	t.Helper()
	if m, e := nfa.Build(n, rule); !sameMachine(m, api.NFA{}) || e != want {
		t.Errorf("Build(%.200s, %d) = %.200s, %d, want %d", tell(n), rule, machineText(m), e, want)
	}
}

// wantSlow asks for the machine of any node, as the chapter lays it.
func wantSlow(t *testing.T, n api.Node, rule int) {
	t.Helper()
	want, f := slowBuild(n, rule)
	if m, e := nfa.Build(n, rule); !sameMachine(m, want) || e != f {
		t.Fatalf("Build(%.400s, %d) = %.400s, %d, want %.400s, %d", tell(n), rule, machineText(m), e, machineText(want), f)
	}
}

// built is the machine of a tree.
func built(t *testing.T, n api.Node, rule int) api.NFA {
	t.Helper()
	m, e := nfa.Build(n, rule)
	if e != api.OK {
		t.Fatalf("Build(%.200s, %d): %d", tell(n), rule, e)
	}
	return m
}

// P7.1: the chapter's examples.
func TestBuildExamples(t *testing.T) {
	x, y := set("x"), set("y")
	wantMachine(t, x, 3, "2: x 0 1; 8 at 1")
	wantMachine(t, empty(), 0, "1; 1 at 0")
	wantMachine(t, seq(x, y), 0, "3: x 0 1, y 1 2; 1 at 2")
	wantMachine(t, alt(x, empty()), 0, "5: f 0 1, x 1 2, f 0 3, f 2 4, f 3 4; 1 at 4")
	wantMachine(t, star(x), 0, "4: f 0 1, x 1 2, f 2 1, f 1 3; 1 at 3")
	wantMachine(t, times(x, 1, 2), 0, "4: x 0 1, x 1 2, f 1 3, f 2 3; 1 at 3")
	wantMachine(t, times(x, 2, 2), 0, "3: x 0 1, x 1 2; 1 at 2")
	wantMachine(t, most(empty()), 0, "1; 1 at 0")
	wantRefused(t, x, 32, api.ErrInval)
	wantRefused(t, x, -1, api.ErrInval)
	wantRefused(t, api.Node{Kind: 9}, 32, api.ErrTree)
	wantRefused(t, seq(some(most(x), 9)...), 0, api.ErrBig)
}

// P7.1: each kind, alone.
func TestBuildKinds(t *testing.T) {
	x, y, z := set("x"), set("y"), set("z")
	wantMachine(t, begin(), 0, "2: ^ 0 1; 1 at 1")
	wantMachine(t, end(), 0, "2: $ 0 1; 1 at 1")
	wantMachine(t, nothing(), 0, "2: - 0 1; 1 at 1")
	wantMachine(t, set("\x00\x7f\x80\xff"), 0, "2: \x00\x7f\x80\xff 0 1; 1 at 1")
	wantMachine(t, seq(x, y, z), 0, "4: x 0 1, y 1 2, z 2 3; 1 at 3")
	wantMachine(t, seq(begin(), x, end()), 0, "4: ^ 0 1, x 1 2, $ 2 3; 1 at 3")
	wantMachine(t, seq(empty(), empty()), 0, "1; 1 at 0")
	wantMachine(t, seq(empty(), x), 0, "2: x 0 1; 1 at 1")
	wantMachine(t, seq(x, empty()), 0, "2: x 0 1; 1 at 1")
	wantMachine(t, alt(x, y), 0, "6: f 0 1, x 1 2, f 0 3, y 3 4, f 2 5, f 4 5; 1 at 5")
	wantMachine(t, alt(x, y, z), 0, "8: f 0 1, x 1 2, f 0 3, y 3 4, f 0 5, z 5 6, f 2 7, f 4 7, f 6 7; 1 at 7")
	wantMachine(t, alt(empty(), empty()), 0, "4: f 0 1, f 0 2, f 1 3, f 2 3; 1 at 3")
	m := built(t, but("a"), 0)
	if !slices.Equal(m.Edges, []api.Edge{{Kind: api.EdgeByte, From: 0, To: 1, Set: but("a").Set}}) {
		t.Errorf("a Set of many bytes: %v", m.Edges)
	}
}

// P7.1: repeats: with Min 0, with Max as Min, with Max above Min, with Max -1, no time at all.
func TestBuildTimes(t *testing.T) {
	x := set("x")
	wantMachine(t, times(x, 0, 0), 0, "1; 1 at 0")
	wantMachine(t, once(x), 0, "2: x 0 1; 1 at 1")
	wantMachine(t, times(x, 3, 3), 0, "4: x 0 1, x 1 2, x 2 3; 1 at 3")
	wantMachine(t, maybe(x), 0, "3: x 0 1, f 0 2, f 1 2; 1 at 2")
	wantMachine(t, times(x, 0, 2), 0, "4: x 0 1, x 1 2, f 0 3, f 1 3, f 2 3; 1 at 3")
	wantMachine(t, times(x, 0, 3), 0, "5: x 0 1, x 1 2, x 2 3, f 0 4, f 1 4, f 2 4, f 3 4; 1 at 4")
	wantMachine(t, times(x, 1, 3), 0, "5: x 0 1, x 1 2, x 2 3, f 1 4, f 2 4, f 3 4; 1 at 4")
	wantMachine(t, times(x, 2, 3), 0, "5: x 0 1, x 1 2, x 2 3, f 2 4, f 3 4; 1 at 4")
	wantMachine(t, times(x, 1, -1), 0, "5: x 0 1, f 1 2, x 2 3, f 3 2, f 2 4; 1 at 4")
	wantMachine(t, times(x, 2, -1), 0, "6: x 0 1, x 1 2, f 2 3, x 3 4, f 4 3, f 3 5; 1 at 5")
	for least := range 256 {
		for _, top := range []int{-1, least, least + 1, (least + 255) / 2, 254, 255} {
			if top == -1 || least <= top && top <= 255 {
				wantSlow(t, times(x, least, top), 7)
				wantSlow(t, seq(begin(), times(alt(x, end()), least%20, min(top, 20+least%20)), x), 7)
			}
		}
	}
}

// P7.1: a repeat whose Sub has no places lays nothing, whatever its counts, wherever it stands.
func TestBuildTimesOfNothing(t *testing.T) {
	x := set("x")
	for _, sub := range []api.Node{empty(), seq(empty(), empty()), times(x, 0, 0), times(empty(), 3, -1), seq(times(x, 0, 0), most(empty())), star(star(empty())), times(most(most(most(x))), 0, 0), around(empty(), 300, star)} {
		for _, c := range [][2]int{{0, -1}, {1, -1}, {255, -1}, {0, 0}, {0, 1}, {1, 1}, {2, 2}, {0, 255}, {3, 7}, {255, 255}} {
			n := times(sub, c[0], c[1])
			wantMachine(t, n, 0, "1; 1 at 0")
			wantMachine(t, seq(n, x, n), 0, "2: x 0 1; 1 at 1")
			wantMachine(t, alt(n, x), 0, "5: f 0 1, f 0 2, x 2 3, f 1 4, f 3 4; 1 at 4")
			wantMachine(t, star(n), 0, "1; 1 at 0")
			wantMachine(t, star(seq(n, x)), 0, "4: f 0 1, x 1 2, f 2 1, f 1 3; 1 at 3")
		}
	}
	// an Alt has places, though none of its Subs has
	wantMachine(t, star(alt(empty(), empty())), 0, "6: f 0 1, f 1 2, f 1 3, f 2 4, f 3 4, f 4 1, f 1 5; 1 at 5")
	// so has what takes nothing
	wantMachine(t, star(nothing()), 0, "4: f 0 1, - 1 2, f 2 1, f 1 3; 1 at 3")
}

// P7.1: kinds in one another.
func TestBuildNested(t *testing.T) {
	x, y, z := set("x"), set("y"), set("z")
	wantMachine(t, seq(seq(x, y), seq(z, x)), 0, "5: x 0 1, y 1 2, z 2 3, x 3 4; 1 at 4")
	wantMachine(t, seq(alt(x, y), z), 0, "7: f 0 1, x 1 2, f 0 3, y 3 4, f 2 5, f 4 5, z 5 6; 1 at 6")
	wantMachine(t, seq(z, alt(x, y)), 0, "7: z 0 1, f 1 2, x 2 3, f 1 4, y 4 5, f 3 6, f 5 6; 1 at 6")
	wantMachine(t, alt(seq(x, y), z), 0, "7: f 0 1, x 1 2, y 2 3, f 0 4, z 4 5, f 3 6, f 5 6; 1 at 6")
	wantMachine(t, alt(x, alt(y, z)), 0, "10: f 0 1, x 1 2, f 0 3, f 3 4, y 4 5, f 3 6, z 6 7, f 5 8, f 7 8, f 2 9, f 8 9; 1 at 9")
	wantMachine(t, alt(star(x), begin()), 0, "8: f 0 1, f 1 2, x 2 3, f 3 2, f 2 4, f 0 5, ^ 5 6, f 4 7, f 6 7; 1 at 7")
	wantMachine(t, star(star(x)), 0, "6: f 0 1, f 1 2, x 2 3, f 3 2, f 2 4, f 4 1, f 1 5; 1 at 5")
	wantMachine(t, maybe(star(x)), 0, "5: f 0 1, x 1 2, f 2 1, f 1 3, f 0 4, f 3 4; 1 at 4")
	wantMachine(t, star(maybe(x)), 0, "5: f 0 1, x 1 2, f 1 3, f 2 3, f 3 1, f 1 4; 1 at 4")
	wantMachine(t, star(seq(x, y)), 0, "5: f 0 1, x 1 2, y 2 3, f 3 1, f 1 4; 1 at 4")
	wantMachine(t, star(alt(x, end())), 0, "8: f 0 1, f 1 2, x 2 3, f 1 4, $ 4 5, f 3 6, f 5 6, f 6 1, f 1 7; 1 at 7")
	wantMachine(t, times(seq(x, y), 1, 2), 0, "6: x 0 1, y 1 2, x 2 3, y 3 4, f 2 5, f 4 5; 1 at 5")
	wantMachine(t, times(times(x, 2, 2), 2, 2), 0, "5: x 0 1, x 1 2, x 2 3, x 3 4; 1 at 4")
	wantMachine(t, times(times(x, 0, 1), 2, 3), 0, "8: x 0 1, f 0 2, f 1 2, x 2 3, f 2 4, f 3 4, x 4 5, f 4 6, f 5 6, f 4 7, f 6 7; 1 at 7")
	wantMachine(t, seq(x, star(y), z), 0, "6: x 0 1, f 1 2, y 2 3, f 3 2, f 2 4, z 4 5; 1 at 5")
	wantMachine(t, seq(maybe(x), maybe(y)), 0, "5: x 0 1, f 0 2, f 1 2, y 2 3, f 2 4, f 3 4; 1 at 4")
	wantMachine(t, once(once(x)), 0, "2: x 0 1; 1 at 1")
	wantMachine(t, star(begin()), 0, "4: f 0 1, ^ 1 2, f 2 1, f 1 3; 1 at 3")
	wantMachine(t, api.Node{Kind: api.NodeSet, Set: x.Set, Subs: []api.Node{}}, 0, "2: x 0 1; 1 at 1")
}

// P7.1: each kind in each kind in each kind, and trees by chance, as the chapter lays them.
func TestBuildByChance(t *testing.T) {
	x := set("x")
	lays := []func(n api.Node) api.Node{
		func(n api.Node) api.Node { return seq(n, x) },
		func(n api.Node) api.Node { return seq(empty(), n, n) },
		func(n api.Node) api.Node { return seq(n, empty()) },
		func(n api.Node) api.Node { return alt(n, x) },
		func(n api.Node) api.Node { return alt(empty(), n, n) },
		func(n api.Node) api.Node { return times(n, 0, 0) },
		func(n api.Node) api.Node { return times(n, 2, 3) },
		func(n api.Node) api.Node { return times(n, 2, -1) },
		func(n api.Node) api.Node { return times(n, 2, 2) },
		once, maybe, star,
	}
	for _, leaf := range []api.Node{empty(), x, nothing(), begin(), end()} {
		wantSlow(t, leaf, 1)
		for _, first := range lays {
			wantSlow(t, first(leaf), 2)
			for _, second := range lays {
				wantSlow(t, second(first(leaf)), 3)
				for _, third := range lays {
					wantSlow(t, third(second(first(leaf))), 4)
				}
			}
		}
	}
	c := chance(71)
	met := map[api.Errno]int{}
	for range 8000 {
		n := c.tree(c.one(1, 2, 3, 4, 5, 6, 9))
		wantSlow(t, n, c.Intn(32))
		_, e := nfa.Build(n, 0)
		met[e]++
	}
	if met[api.OK] < 1000 || met[api.ErrBig] < 100 {
		t.Errorf("trees of too few kinds: %v", met)
	}
}

// P7.1: the rule's number: its bit stands where the machine ends, and nowhere else; all else is the same.
func TestBuildRule(t *testing.T) {
	for _, n := range []api.Node{empty(), set("x"), begin(), seq(set("x"), end()), alt(set("x"), empty()), star(set("x")), times(set("x"), 2, 4)} {
		first := built(t, n, 0)
		for rule := range 32 {
			m := built(t, n, rule)
			want := slices.Clone(first.Rules)
			for s := range want {
				want[s] <<= rule
			}
			if m.States != first.States || !slices.Equal(m.Edges, first.Edges) || !slices.Equal(m.Rules, want) {
				t.Errorf("Build(%s, %d) = %s", tell(n), rule, machineText(m))
			}
		}
		for _, rule := range []int{-1, 32, 33, 63, 64, 256, 1 << 32, -32, math.MaxInt, math.MinInt} {
			wantRefused(t, n, rule, api.ErrInval)
		}
	}
	wantMachine(t, set("x"), 31, "2: x 0 1; 2147483648 at 1")
}

// wrongNodes is nodes that are no trees, by what they are themselves.
func wrongNodes() []api.Node {
	x := set("x")
	room := func(n api.Node) api.Node { n.Subs = []api.Node{x}; return n }
	least := func(n api.Node) api.Node { n.Min = 1; return n }
	top := func(n api.Node) api.Node { n.Max = -1; return n }
	bytes := func(n api.Node) api.Node { n.Set = x.Set; return n }
	wrong := []api.Node{{}, {Kind: 8}, {Kind: 9}, {Kind: -1}, {Kind: 1 << 40}, set("\n"), set("x\n"), seq(), alt(), seq(x), alt(x), {Kind: api.NodeTimes}, {Kind: api.NodeTimes, Subs: []api.Node{x, x}}, times(x, 2, 1), times(x, -1, 1), times(x, -1, -1), times(x, 0, -2), times(x, 0, 256), times(x, 256, 256), times(x, 256, -1), bytes(seq(x, x)), bytes(alt(x, x)), bytes(times(x, 0, 1))}
	for _, n := range []api.Node{empty(), begin(), end(), x} {
		wrong = append(wrong, room(n), least(n), top(n))
	}
	for _, n := range []api.Node{empty(), begin(), end()} {
		wrong = append(wrong, bytes(n))
	}
	for _, n := range []api.Node{seq(x, x), alt(x, x)} {
		wrong = append(wrong, least(n), top(n))
	}
	return wrong
}

// P7.1: what is no tree, at any depth, also where nothing of it would be laid.
func TestBuildWrong(t *testing.T) {
	x := set("x")
	for _, n := range wrongNodes() {
		for _, wrong := range []api.Node{n, seq(x, n), alt(n, x), times(n, 0, 0), star(n), most(n), seq(x, alt(x, maybe(seq(n, x)))), around(n, 1000, once), around(n, 1000, func(n api.Node) api.Node { return seq(n, x) }), seq(append(some(x, 3000), n)...)} {
			for _, rule := range []int{0, 31, 32, -1} {
				wantRefused(t, wrong, rule, api.ErrTree)
			}
		}
	}
	c := chance(72)
	for range 8000 {
		wantSlow(t, c.spoil(c.tree(c.one(1, 2, 3, 4))), c.one(-1, 0, 31, 32))
	}
}

// P7.1: trees of MaxPlaces places, the machine's beginning being one, and of one more.
func TestBuildBig(t *testing.T) {
	x := set("x")
	row := func(n int) api.Node { return seq(some(x, n)...) }
	for _, c := range []struct {
		what      string
		just, one api.Node
	}{
		{"a row", row(2047), row(2048)},
		{"alternatives", alt(some(x, 1023)...), alt(append(some(x, 1023), empty())...)},
		{"empty alternatives", alt(some(empty(), 2046)...), alt(some(empty(), 2047)...)},
		{"a loop", star(row(2045)), star(row(2046))},
		{"one and a loop", seq(x, times(row(1022), 1, -1)), seq(x, x, times(row(1022), 1, -1))},
		{"none or one", maybe(row(2046)), maybe(row(2047))},
		{"45 times 45", seq(append(some(x, 22), times(times(x, 45, 45), 45, 45))...), seq(append(some(x, 23), times(times(x, 45, 45), 45, 45))...)},
		{"up to 255", seq(times(row(8), 0, 255), times(x, 6, 6)), seq(times(row(8), 0, 255), times(x, 7, 7))},
		{"beside what isn't laid", seq(row(2047), times(row(2048), 0, 0)), seq(row(2048), times(row(2048), 0, 0))},
	} {
		m := built(t, c.just, 5)
		if want, _ := slowBuild(c.just, 5); m.States != 2048 || !sameMachine(m, want) {
			t.Errorf("%s: a machine of %d states", c.what, m.States)
		}
		wantRefused(t, c.one, 5, api.ErrBig)
		wantRefused(t, c.one, 32, api.ErrBig)
		wantRefused(t, c.just, 32, api.ErrInval)
	}
	wantRefused(t, row(100000), 0, api.ErrBig)
	wantRefused(t, most(most(x)), 0, api.ErrBig)
	wantRefused(t, around(x, 60, most), 0, api.ErrBig) // more than 2^400 places
	wantRefused(t, seq(row(3000), seq(x)), -1, api.ErrTree)
	wantMachine(t, times(around(x, 60, most), 0, 0), 2, "1; 4 at 0")
}

// P7.1: how deep a tree is doesn't matter: chapter 4 has no bound for that.
func TestBuildDeep(t *testing.T) {
	x := set("x")
	for _, n := range []int{255, 256, 257, 2000, 1<<16 - 2} {
		wantMachine(t, around(x, n, once), 1, "2: x 0 1; 2 at 1")
		wantMachine(t, around(x, n, func(n api.Node) api.Node { return seq(empty(), n) }), 1, "2: x 0 1; 2 at 1")
		wantMachine(t, around(empty(), n, star), 1, "1; 2 at 0")
		wantMachine(t, around(empty(), n, most), 1, "1; 2 at 0")
		wantMachine(t, times(around(x, n, star), 0, 0), 1, "1; 2 at 0")
	}
	for _, lay := range []func(api.Node) api.Node{maybe, func(n api.Node) api.Node { return seq(n, x) }, func(n api.Node) api.Node { return seq(x, once(n)) }} {
		n := around(x, 2046, lay)
		if want, _ := slowBuild(n, 1); !sameMachine(built(t, n, 1), want) {
			t.Errorf("a tree 2047 deep")
		}
		wantRefused(t, lay(n), 1, api.ErrBig)
	}
	wantSlow(t, around(x, 1023, star), 1)
	wantRefused(t, around(x, 1024, star), 1, api.ErrBig)
}

// wantUnion asks for a union.
func wantUnion(t *testing.T, want string, list ...api.NFA) {
	t.Helper()
	m, e := nfa.Union(list...)
	if got := machineText(m); got != want || len(m.Rules) != m.States || e != api.OK {
		t.Errorf("Union = %s (%d words), %d, want %s", got, len(m.Rules), e, want)
	}
}

// P7.2: the chapter's examples; one machine, several, the same one twice, unions of unions.
func TestUnion(t *testing.T) {
	x, none := built(t, set("x"), 3), built(t, empty(), 0)
	wantUnion(t, "1;")
	wantUnion(t, "1;", []api.NFA{}...)
	wantUnion(t, "4: f 0 1, x 1 2, f 0 3; 8 at 2 1 at 3", x, none)
	wantUnion(t, "4: f 0 1, f 0 2, x 2 3; 1 at 1 8 at 3", none, x)
	wantUnion(t, "3: f 0 1, x 1 2; 8 at 2", x)
	wantUnion(t, "2: f 0 1; 1 at 1", none)
	wantUnion(t, "5: f 0 1, x 1 2, f 0 3, x 3 4; 8 at 2 8 at 4", x, x)
	wantUnion(t, "4: f 0 1, f 0 2, f 0 3; 1 at 1 1 at 2 1 at 3", none, none, none)
	wantUnion(t, "10: f 0 1, x 1 2, f 0 3, f 3 4, y 4 5, f 5 4, f 4 6, f 0 7, ^ 7 8, $ 8 9; 8 at 2 16 at 6 2147483648 at 9", x, built(t, star(set("y")), 4), built(t, seq(begin(), end()), 31))
	bare, _ := nfa.Union()
	wantUnion(t, "2: f 0 1;", bare)
	two, _ := nfa.Union(x, none)
	wantUnion(t, "8: f 0 1, f 1 2, x 2 3, f 1 4, f 0 5, f 5 6, x 6 7; 8 at 3 1 at 4 8 at 7", two, api.NFA{States: 3, Edges: two.Edges[:2], Rules: two.Rules[:3]})
}

// P7.2: machines that no tree has: all bits, loops, edges back to the first state, Sets with the newline or of no byte, an edge twice.
func TestUnionOddMachines(t *testing.T) {
	odd := api.NFA{States: 2, Rules: []uint32{1<<32 - 1, 6}, Edges: []api.Edge{{Kind: api.EdgeEnd, From: 1, To: 0}, {Kind: api.EdgeFree, From: 1, To: 1}, {Kind: api.EdgeByte, From: 0, To: 0, Set: set("a\n").Set}, {Kind: api.EdgeByte, From: 0, To: 1}, {Kind: api.EdgeBegin, From: 0, To: 1}, {Kind: api.EdgeBegin, From: 0, To: 1}}}
	wantUnion(t, "5: f 0 1, f 0 3, $ 4 3, f 4 4, \na 3 3, - 3 4, ^ 3 4, ^ 3 4; 1 at 1 4294967295 at 3 6 at 4", api.NFA{States: 2, Rules: []uint32{1, 0}}, odd)
	c := chance(73)
	for range 4000 {
		var list []api.NFA
		for range c.Intn(6) {
			list = append(list, c.machine())
		}
		want := slowUnion(list)
		if m, e := nfa.Union(list...); !sameMachine(m, want) || e != api.OK {
			t.Fatalf("Union = %s, %d, want %s", machineText(m), e, machineText(want))
		}
	}
}

// wrongMachines is machines that don't fit.
func wrongMachines() []api.NFA {
	word := []uint32{0}
	two := []uint32{0, 1}
	one := func(e api.Edge) api.NFA { return api.NFA{States: 2, Rules: two, Edges: []api.Edge{e}} }
	last := func(e api.Edge) api.NFA {
		return api.NFA{States: 2, Rules: two, Edges: []api.Edge{{Kind: 1, To: 1}, {Kind: 2, From: 1, Set: set("a").Set}, e}}
	}
	wrong := []api.NFA{{}, {States: 1}, {States: 1, Rules: []uint32{}}, {States: 1, Rules: two}, {States: 2, Rules: word}, {States: 3, Rules: two}, {Rules: word}, {States: -1}, {States: -1, Rules: word}, {States: math.MinInt}, {States: math.MaxInt, Rules: word}, {Edges: []api.Edge{{Kind: 1}}}}
	for _, e := range []api.Edge{{}, {Kind: 5}, {Kind: -1}, {Kind: 1 << 40}, {Kind: math.MinInt}} {
		wrong = append(wrong, one(e), last(e))
	}
	for kind := 1; kind <= 4; kind++ {
		for _, s := range []int{-1, 2, 3, math.MinInt, math.MaxInt} {
			wrong = append(wrong, one(api.Edge{Kind: kind, From: s}), one(api.Edge{Kind: kind, To: s}), last(api.Edge{Kind: kind, From: s, To: 1}), last(api.Edge{Kind: kind, From: 1, To: s}))
		}
		for b := 0; b < 256 && kind != api.EdgeByte; b++ {
			bytes := set(string([]byte{byte(b)})).Set
			wrong = append(wrong, one(api.Edge{Kind: kind, From: 1, Set: bytes}), last(api.Edge{Kind: kind, Set: bytes}))
		}
	}
	return wrong
}

// P7.2, P7.3: machines that don't fit, alone and among others that do.
func TestWrongMachines(t *testing.T) {
	x := built(t, star(set("x")), 3)
	for _, wrong := range wrongMachines() {
		if nfa.Right(wrong) {
			t.Errorf("%v fits", wrong)
		}
		for _, list := range [][]api.NFA{{wrong}, {wrong, x}, {x, wrong}, {x, wrong, x}, {wrong, wrong}, {x, x, x, wrong}} {
			if m, e := nfa.Union(list...); !sameMachine(m, api.NFA{}) || e != api.ErrMachine {
				t.Errorf("Union with %v = %s, %d", wrong, machineText(m), e)
			}
		}
	}
}

// P7.3: machines that fit.
func TestRight(t *testing.T) {
	two := []uint32{1<<32 - 1, 0}
	for _, m := range []api.NFA{{States: 1, Rules: []uint32{0}}, {States: 2, Rules: two}, {States: 1, Rules: []uint32{7}, Edges: []api.Edge{}}, {States: 100000, Rules: make([]uint32, 100000), Edges: []api.Edge{{Kind: 4, From: 99999, To: 99999}}}} {
		if !nfa.Right(m) {
			t.Errorf("%.200s doesn't fit", machineText(m))
		}
	}
	for kind := 1; kind <= 4; kind++ {
		for _, from := range []int{0, 1} {
			for _, to := range []int{0, 1} {
				if !nfa.Right(api.NFA{States: 2, Rules: two, Edges: []api.Edge{{Kind: kind, From: from, To: to}}}) {
					t.Errorf("an edge %d from %d to %d doesn't fit", kind, from, to)
				}
			}
		}
	}
	for b := range 256 {
		if !nfa.Right(api.NFA{States: 2, Rules: two, Edges: []api.Edge{{Kind: api.EdgeByte, Set: set(string([]byte{byte(b)})).Set}}}) {
			t.Errorf("a Set with the byte %d doesn't fit", b)
		}
	}
	for _, p := range []string{"", "x", "(^a|b$)*c{2,5}", "[^a]+|.{3}"} {
		if !nfa.Right(built(t, parsed(t, p), 9)) {
			t.Errorf("the machine of %q doesn't fit", p)
		}
	}
}

// P7.3: machines by chance, with one thing changed or none.
func TestRightByChance(t *testing.T) {
	c := chance(74)
	met := map[bool]int{}
	for range 20000 {
		m := c.machine()
		if c.Intn(8) > 0 {
			m = c.spoilMachine(m)
		}
		want := slowRight(m)
		if nfa.Right(m) != want {
			t.Fatalf("Right(%v) = %v", m, !want)
		}
		_, e := nfa.Union(m)
		if (e == api.OK) != want {
			t.Fatalf("Union(%v): %d", m, e)
		}
		met[want]++
	}
	if met[true] < 2000 || met[false] < 2000 {
		t.Errorf("machines of too few kinds: %v", met)
	}
}

// P7.4: a machine of a tree fits, has as many states as the tree has places, and meets its rule alone, just where the tree takes a piece.
func TestWhatABuildMeets(t *testing.T) {
	c := chance(75)
	for range 4000 {
		n := c.tree(c.one(1, 2, 3, 4))
		rule := c.Intn(32)
		m, e := nfa.Build(n, rule)
		if e != api.OK {
			continue
		}
		if !nfa.Right(m) || m.States != ere.Places(n) || slowPlaces(n).Cmp(big.NewInt(int64(m.States-1))) != 0 {
			t.Fatalf("Build(%s) has %d states", tell(n), m.States)
		}
		if m.States > 200 {
			continue // the slow walk is slow
		}
		other := built(t, n, 31-rule)
		for _, line := range []string{"", c.line(3), c.line(6), c.line(12)} {
			want := slowSearch(n, line)
			if is, e := deriv.Search(n, line); is != want || e != api.OK {
				t.Fatalf("Search(%s, %q) = %v, %d", tell(n), line, is, e)
			}
			bit := uint32(0)
			if want {
				bit = 1
			}
			if got := slowMet(m, line); got != bit<<rule {
				t.Fatalf("%s meets %x in %q, rule %d", tell(n), got, line, rule)
			}
			if got := slowMet(other, line); got != bit<<(31-rule) {
				t.Fatalf("%s meets %x in %q, rule %d", tell(n), got, line, 31-rule)
			}
		}
	}
}

// P7.4: a union fits, has one state more than its machines together, and meets just the rules that one of them meets.
func TestWhatAUnionMeets(t *testing.T) {
	c := chance(76)
	for range 4000 {
		var list []api.NFA
		states := 1
		for range c.Intn(5) {
			one := c.machine()
			if c.Intn(2) == 0 {
				one, _ = nfa.Build(c.tree(2), c.Intn(32))
			}
			list = append(list, one)
			states += one.States
		}
		m, e := nfa.Union(list...)
		if e != api.OK || !nfa.Right(m) || m.States != states {
			t.Fatalf("a union of %d machines: %d states, %d", len(list), m.States, e)
		}
		for _, line := range []string{"", c.line(3), c.line(8)} {
			want := uint32(0)
			for _, one := range list {
				want |= slowMet(one, line)
			}
			if got := slowMet(m, line); got != want {
				t.Fatalf("%s meets %x in %q, its machines %x", machineText(m), got, line, want)
			}
		}
	}
}

// P7.4: what machines of patterns meet: M is met, anything else not.
func TestMeets(t *testing.T) {
	for _, c := range []string{
		"a|M|a", "a|M|xa", "a|M|ax", "a|M|\na", "a|-|", "a|-|b", "a|-|\n", "|M|", "|M|a", "|M|\n",
		"^a|M|a", "^a|M|ab", "^a|-|ba", "^a|-|\na", "a$|M|a", "a$|M|ba", "a$|-|ab", "a$|-|a\n", "^$|M|", "^$|-|a", "^$|-|\n", "a^|-|", "a^|-|a", "a^|-|aa", "$|M|", "$|M|a",
		"a|b|M|xa", "a|b|M|bx", "a|b|-|x", "(ab)+|M|ab", "(ab)+|M|xabab", "(ab)+|-|ba", "a{2,3}b|M|aaaab", "a{2,3}b|-|ab", "^a{2,3}b|M|aab", "^a{2,3}b|M|aaab", "^a{2,3}b|-|aaaab", "a{0}|M|",
		"(^|x)a|M|a", "(^|x)a|M|bxa", "(^|x)a|-|ba", ".|M|a", ".|-|", ".|-|\n", "a(^|b)*$|M|a", "a(^|b)*$|M|abb", "a(^|b)*$|-|ac",
	} {
		p, line, met := strings.Cut(c, "|M|")
		want := uint32(1 << 6)
		if !met {
			p, line, _ = strings.Cut(c, "|-|")
			want = 0
		}
		if got := slowMet(built(t, parsed(t, p), 6), line); got != want {
			t.Errorf("%q meets %x in %q", p, got, line)
		}
	}
}

// soon fails if something takes longer than it may, by far.
func soon(t *testing.T, what string, do func()) {
	t.Helper()
	done := make(chan int)
	go func() {
		do()
		close(done)
	}()
	select {
	case <-done:
	case <-time.After(20 * time.Second):
		t.Fatalf("%s doesn't end soon", what)
	}
}

// P7.5: Build ends soon: trees of far more nodes than places, repeated again and again, and trees of far more places than a machine may have.
func TestBuildSoon(t *testing.T) {
	x := set("x")
	again := func(n api.Node) api.Node { return times(times(n, 45, 45), 45, 45) }
	// the lists are shared, so that the nodes need little room: each of these has four million
	empties := around(empty(), 2, func(n api.Node) api.Node { return seq(some(n, 2048)...) })
	loops := around(star(empty()), 2, func(n api.Node) api.Node { return seq(some(n, 1448)...) })
	unlaid := around(times(x, 0, 0), 2, func(n api.Node) api.Node { return seq(some(n, 1448)...) })
	deep := func(n api.Node) api.Node { return around(n, 65000, once) }
	deepRow := func(n api.Node) api.Node {
		return around(n, 65000, func(n api.Node) api.Node { return seq(empty(), n) })
	}
	for _, c := range []struct {
		what string
		n    api.Node
		e    api.Errno
	}{
		{"empties beside a byte", again(seq(empties, x)), api.OK},
		{"empties behind a byte", again(seq(x, empties)), api.OK},
		{"empties as an alternative", times(alt(empties, x, empties), 255, 255), api.OK},
		{"empties, any number of times", seq(star(empties), most(empties), x), api.OK},
		{"loops of nothing", again(seq(loops, x)), api.OK},
		{"loops of nothing in loops", times(star(seq(loops, x)), 200, 200), api.OK},
		{"what isn't laid", again(seq(x, unlaid)), api.OK},
		{"what isn't laid, and is great", again(seq(x, times(seq(some(alt(some(x, 1000)...), 1000)...), 0, 0))), api.OK},
		{"once in once", again(deep(x)), api.OK},
		{"rows in rows", again(deepRow(x)), api.OK},
		{"once in once, as an alternative", times(alt(deep(empty()), deepRow(x)), 255, 255), api.OK},
		{"times of nothing in one another", around(empty(), 65000, most), api.OK},
		{"loops of nothing in one another", around(seq(empty(), empty()), 65000, func(n api.Node) api.Node { return times(n, 255, -1) }), api.OK},
		{"a wrong node at the bottom", deep(set("\n")), api.ErrTree},
		{"a wrong node behind all", seq(empties, loops, api.Node{}), api.ErrTree},
		{"times in one another", around(x, 65000, most), api.ErrBig},
		{"loops in one another", around(x, 65000, star), api.ErrBig},
		{"a long row", seq(some(alt(some(x, 1000)...), 1000)...), api.ErrBig},
	} {
		soon(t, c.what, func() {
			m, e := nfa.Build(c.n, 4)
			if e != c.e || (e == api.OK) != nfa.Right(m) || e == api.OK && m.States != ere.Places(c.n) {
				t.Errorf("%s: %d states, %d", c.what, m.States, e)
			}
		})
	}
}

// P7.5: Union and Right end soon: many machines, and great ones.
func TestUnionSoon(t *testing.T) {
	small, great := built(t, parsed(t, "(a|b)*c"), 4), built(t, seq(some(set("x"), 2047)...), 5)
	many := slices.Repeat([]api.NFA{small}, 50000)
	soon(t, "a union of many machines", func() {
		m, e := nfa.Union(many...)
		if e != api.OK || m.States != 1+50000*small.States || !nfa.Right(m) {
			t.Errorf("a union of many machines: %d states, %d", m.States, e)
		}
	})
	soon(t, "a union of many machines, the last of which doesn't fit", func() {
		if _, e := nfa.Union(append(many, api.NFA{})...); e != api.ErrMachine {
			t.Errorf("a union of many machines, the last of which doesn't fit: %d", e)
		}
	})
	soon(t, "unions of unions", func() {
		for i := range 8 {
			m, e := nfa.Union(great, great)
			if great = m; e != api.OK || m.States != 2048<<(i+1)+2<<i-1 {
				t.Errorf("unions of unions: %d states, %d", m.States, e)
			}
		}
	})
}

// deepCopy is a tree in other memory, the room behind its lists too.
func deepCopy(t api.Node) api.Node {
	n := len(t.Subs)
	var room []api.Node
	for _, sub := range t.Subs[:cap(t.Subs)] {
		room = append(room, deepCopy(sub))
	}
	t.Subs = room[:n]
	return t
}

// sameRoom tells whether two trees are the same, the room behind their lists too.
func sameRoom(a, b api.Node) bool {
	return a.Kind == b.Kind && a.Set == b.Set && a.Min == b.Min && a.Max == b.Max && len(a.Subs) == len(b.Subs) && slices.EqualFunc(a.Subs[:cap(a.Subs)], b.Subs[:len(b.Subs)+cap(a.Subs)-len(a.Subs)], sameRoom)
}

// roomy is a tree whose lists all have room behind them, the empty ones too, with nodes in it that aren't its own.
func roomy(t api.Node) api.Node {
	subs := make([]api.Node, 0, len(t.Subs)+2)
	for _, sub := range t.Subs {
		subs = append(subs, roomy(sub))
	}
	room := append(subs, api.Node{Kind: 77, Min: 7}, api.Node{Kind: 78, Max: 8})
	t.Subs = room[:len(t.Subs)]
	return t
}

// wipe writes over all lists of a tree, at every depth, and over the room behind them.
func wipe(t api.Node) {
	for _, sub := range t.Subs {
		wipe(sub)
	}
	for i := range t.Subs[:cap(t.Subs)] {
		t.Subs[:cap(t.Subs)][i] = api.Node{Kind: 99}
	}
}

// wipeMachine writes over a machine's lists, and over the room behind them.
func wipeMachine(m api.NFA) {
	for i := range m.Edges[:cap(m.Edges)] {
		m.Edges[:cap(m.Edges)][i] = api.Edge{Kind: 99, From: -5, To: -7}
	}
	for i := range m.Rules[:cap(m.Rules)] {
		m.Rules[:cap(m.Rules)][i] = 0xbad
	}
}

// copied is a machine in other memory, with just that room behind its lists that is asked for, and things in it that aren't its own.
func copied(m api.NFA, room int) api.NFA {
	edges := append(append(make([]api.Edge, 0, len(m.Edges)+room), m.Edges...), slices.Repeat([]api.Edge{{Kind: 66}}, room)...)
	words := append(append(make([]uint32, 0, len(m.Rules)+room), m.Rules...), slices.Repeat([]uint32{666}, room)...)
	return api.NFA{States: m.States, Edges: edges[:len(m.Edges)], Rules: words[:len(m.Rules)]}
}

// sameMachineRoom tells whether two copies of a machine are the same, the room behind them too.
func sameMachineRoom(a, b api.NFA, room int) bool {
	return sameMachine(a, b) && slices.Equal(a.Edges[:len(a.Edges)+room], b.Edges[:len(b.Edges)+room]) && slices.Equal(a.Rules[:len(a.Rules)+room], b.Rules[:len(b.Rules)+room])
}

// P7.5: what Build answers is new memory, and the tree stays as it is.
func TestBuildMemory(t *testing.T) {
	c := chance(77)
	for range 2000 {
		n := roomy(c.tree(c.one(1, 2, 3, 4)))
		before := deepCopy(n)
		first, e := nfa.Build(n, 9)
		second, f := nfa.Build(n, 9)
		want, g := slowBuild(before, 9)
		if e != g || f != g || !sameRoom(n, before) {
			t.Fatalf("Build(%s): %d, or it is changed", tell(before), e)
		}
		wipeMachine(first)
		if !sameRoom(n, before) || !sameMachine(second, want) {
			t.Fatalf("Build(%s) shares memory with another answer", tell(before))
		}
		wipe(n)
		if !sameMachine(second, want) {
			t.Fatalf("Build(%s) hangs on what was handed in", tell(before))
		}
	}
}

// P7.5: what Union answers is new memory, and the machines stay as they are, and so does their list.
func TestUnionMemory(t *testing.T) {
	const room = 5
	c := chance(78)
	for range 3000 {
		list := make([]api.NFA, c.Intn(4), 8)
		for i := range list {
			list[i] = copied(c.machine(), room)
		}
		list[:4][3] = copied(c.machine(), room) // in the room behind
		var before []api.NFA
		for _, m := range list[:4] {
			kept := m
			if m.States > 0 {
				kept = copied(m, room)
			}
			before = append(before, kept)
		}
		want := slowUnion(list)
		first, e := nfa.Union(list...)
		second, f := nfa.Union(list...)
		wipeMachine(first)
		for i, m := range list[:4] {
			if m.States > 0 && !sameMachineRoom(m, before[i], room) {
				t.Fatalf("Union changes or shares a machine that was handed in")
			}
			nfa.Right(m)
			if m.States > 0 && !sameMachineRoom(m, before[i], room) {
				t.Fatalf("Right changes a machine that was handed in")
			}
			wipeMachine(m)
		}
		clear(list[:4])
		if e != api.OK || f != api.OK || !sameMachine(second, want) {
			t.Fatalf("Union shares memory with another answer or with what was handed in")
		}
	}
}

// P7.5 and the rules that hold everywhere: the same answers whoever asks, several at once.
func TestManyAtOnce(t *testing.T) {
	n := parsed(t, "(^a|(ab?|b){1,4}c*)*(a|b$)?")
	want, _ := slowBuild(n, 8)
	both := slowUnion([]api.NFA{want, want})
	var wait sync.WaitGroup
	for range 8 {
		wait.Go(func() {
			for range 200 {
				m, e := nfa.Build(n, 8)
				u, f := nfa.Union(m, want)
				if !sameMachine(m, want) || !sameMachine(u, both) || !nfa.Right(want) || e+f != 0 {
					t.Error("the answers hang on who asks")
					return
				}
			}
		})
	}
	wait.Wait()
}
