package tree_test

import (
	"fmt"
	"math/rand"
	"slices"
	"strings"
	"sync"
	"testing"

	"heron/api"
	"heron/ere"
	"heron/tree"
)

// set is NodeSet of some bytes.
func set(bytes string) api.Node {
	n := api.Node{Kind: api.NodeSet}
	for i := range len(bytes) {
		n.Set[bytes[i]/64] |= 1 << (bytes[i] % 64)
	}
	return n
}

// but is NodeSet of all bytes but some and the newline.
func but(bytes string) api.Node {
	n := set(bytes + "\n")
	for i := range n.Set {
		n.Set[i] = ^n.Set[i]
	}
	return n
}

// from is NodeSet of the bytes from one to another one, without the newline.
func from(first, last int) api.Node {
	n := api.Node{Kind: api.NodeSet}
	for b := first; b <= last; b++ {
		if b != 10 {
			n.Set[b/64] |= 1 << (b % 64)
		}
	}
	return n
}

func empty() api.Node                { return api.Node{Kind: api.NodeEmpty} }
func begin() api.Node                { return api.Node{Kind: api.NodeBegin} }
func end() api.Node                  { return api.Node{Kind: api.NodeEnd} }
func nothing() api.Node              { return api.Node{Kind: api.NodeSet} }
func seq(subs ...api.Node) api.Node  { return api.Node{Kind: api.NodeSeq, Subs: subs} }
func alt(subs ...api.Node) api.Node  { return api.Node{Kind: api.NodeAlt, Subs: subs} }
func many(text string, n int) string { return strings.Repeat(text, n) }

func times(sub api.Node, least, most int) api.Node {
	return api.Node{Kind: api.NodeTimes, Subs: []api.Node{sub}, Min: least, Max: most}
}

// some is a tree so many times.
func some(t api.Node, n int) []api.Node {
	return slices.Repeat([]api.Node{t}, n)
}

// around is a tree with a way of laying one around it done so many times.
func around(t api.Node, n int, lay func(api.Node) api.Node) api.Node {
	for range n {
		t = lay(t)
	}
	return t
}

// maybe is a tree or the empty text.
func maybe(t api.Node) api.Node { return times(t, 0, 1) }

// same tells whether two nodes are the same, an empty list being the same as none.
func same(a, b api.Node) bool {
	return a.Kind == b.Kind && a.Set == b.Set && a.Min == b.Min && a.Max == b.Max && slices.EqualFunc(a.Subs, b.Subs, same)
}

// tell is a node as text.
func tell(t api.Node) string {
	var subs []string
	for _, sub := range t.Subs {
		subs = append(subs, tell(sub))
	}
	list := strings.Join(subs, " ")
	switch t.Kind {
	case api.NodeSet:
		return fmt.Sprintf("S(%.60q)", slowSet(t.Set))
	case api.NodeTimes:
		return fmt.Sprintf("Times(%s, %d, %d)", list, t.Min, t.Max)
	}
	return fmt.Sprintf("%d[%s]", t.Kind, list)
}

func wantRight(t *testing.T, n api.Node) {
	t.Helper()
	if !tree.Right(n) {
		t.Errorf("Right(%.200s) = false", tell(n))
	}
}

// wantWrong asks all calls about a node that is no right tree.
func wantWrong(t *testing.T, n api.Node) {
	t.Helper()
	if tree.Right(n) {
		t.Errorf("Right(%.200s) = true", tell(n))
	}
	if p, e := tree.Print(n); p != "" || e != api.ErrTree {
		t.Errorf("Print(%.200s) = %.40q, %d, want ErrTree", tell(n), p, e)
	}
	if p, e := tree.Plain(n); !same(p, api.Node{}) || e != api.ErrTree {
		t.Errorf("Plain(%.200s) = %.200s, %d, want ErrTree", tell(n), tell(p), e)
	}
	if is, e := tree.Nullable(n, true, true); is || e != api.ErrTree {
		t.Errorf("Nullable(%.200s) = %v, %d, want ErrTree", tell(n), is, e)
	}
	if least, most, e := tree.Spread(n); least != 0 || most != 0 || e != api.ErrTree {
		t.Errorf("Spread(%.200s) = %d, %d, %d, want ErrTree", tell(n), least, most, e)
	}
}

// wantText asks for a tree's text, and reads it again.
func wantText(t *testing.T, n api.Node, want string) {
	t.Helper()
	got, e := tree.Print(n)
	if got != want || e != api.OK {
		t.Errorf("Print(%.200s) = %.200q, %d, want %.200q", tell(n), got, e, want)
		return
	}
	if back, at, e := ere.Parse(got); !same(back, n) || e != api.OK {
		t.Errorf("%.200q is read as %.200s, %d, %d, want %.200s", got, tell(back), at, e, tell(n))
	}
}

func wantNoText(t *testing.T, n api.Node, want api.Errno) {
	t.Helper()
	if got, e := tree.Print(n); got != "" || e != want {
		t.Errorf("Print(%.200s) = %.40q, %d, want %d", tell(n), got, e, want)
	}
}

func wantPlain(t *testing.T, n, want api.Node) {
	t.Helper()
	got, e := tree.Plain(n)
	if !same(got, want) || e != api.OK {
		t.Errorf("Plain(%.200s) = %.200s, %d, want %.200s", tell(n), tell(got), e, tell(want))
	}
	if again, e := tree.Plain(got); !same(again, got) || e != api.OK {
		t.Errorf("Plain(%.200s) = %.200s, %d, which is no plainest tree", tell(got), tell(again), e)
	}
}

// wantNullable asks at a place in a line's midst, at its beginning, at its end, at both: "x" for yes.
func wantNullable(t *testing.T, n api.Node, want string) {
	t.Helper()
	got := ""
	for _, at := range [][2]bool{{false, false}, {true, false}, {false, true}, {true, true}} {
		is, e := tree.Nullable(n, at[0], at[1])
		if e != api.OK {
			t.Errorf("Nullable(%.200s, %v) = %v, %d", tell(n), at, is, e)
		}
		got += map[bool]string{true: "x", false: "."}[is]
	}
	if got != want {
		t.Errorf("Nullable(%.200s) = %s, want %s", tell(n), got, want)
	}
}

func wantSpread(t *testing.T, n api.Node, least, most int) {
	t.Helper()
	if gotLeast, gotMost, e := tree.Spread(n); gotLeast != least || gotMost != most || e != api.OK {
		t.Errorf("Spread(%.200s) = %d, %d, %d, want %d, %d", tell(n), gotLeast, gotMost, e, least, most)
	}
}

// P5.1: each kind of tree as it may be, and as it may not; the latter at any depth, for all calls.
func TestRightKinds(t *testing.T) {
	a := set("a")
	for _, n := range []api.Node{empty(), begin(), end(), nothing(), a, but(""), seq(a, a), seq(some(a, 9)...), alt(a, a), alt(some(empty(), 9)...), times(a, 0, -1), times(a, 0, 0), times(a, 255, 255), times(a, 255, -1), times(a, 0, 255), times(nothing(), 3, 3), times(begin(), 1, 2)} {
		wantRight(t, n)
		n.Subs = append(make([]api.Node, 0, 9), n.Subs...) // an empty list is as good as none
		wantRight(t, n)
	}
	changed := func(n api.Node, change func(*api.Node)) api.Node {
		change(&n)
		return n
	}
	wrong := []api.Node{{}, {Kind: 8}, {Kind: -1}, {Kind: 1 << 40}, {Kind: 0, Set: set("a").Set}, seq(), seq(a), alt(), alt(a), {Kind: api.NodeTimes, Max: 1}, {Kind: api.NodeTimes, Subs: []api.Node{a, a}, Max: 1}, times(a, 2, 1), times(a, -1, 1), times(a, -1, -1), times(a, 0, -2), times(a, 0, 256), times(a, 256, 256), times(a, 256, -1), set("a\n"), set("\n"), {Kind: api.NodeSet, Set: api.Set{1<<64 - 1, 1<<64 - 1, 1<<64 - 1, 1<<64 - 1}}}
	for _, n := range []api.Node{empty(), begin(), end(), a, seq(a, a), alt(a, a)} {
		wrong = append(wrong, changed(n, func(n *api.Node) { n.Min = 1 }), changed(n, func(n *api.Node) { n.Max = 1 }), changed(n, func(n *api.Node) { n.Max = -1 }))
		if n.Kind != api.NodeSet {
			wrong = append(wrong, changed(n, func(n *api.Node) { n.Set = a.Set }))
		}
		if len(n.Subs) == 0 {
			wrong = append(wrong, changed(n, func(n *api.Node) { n.Subs = some(empty(), 1) }), changed(n, func(n *api.Node) { n.Subs = some(a, 2) }))
		}
	}
	wrong = append(wrong, changed(times(a, 0, 1), func(n *api.Node) { n.Set = a.Set }))
	for _, n := range wrong {
		wantWrong(t, n)
		wantWrong(t, seq(n, a))
		wantWrong(t, seq(a, a, n))
		wantWrong(t, alt(a, n))
		wantWrong(t, times(n, 0, 0))
		wantWrong(t, around(n, 60, func(n api.Node) api.Node { return alt(a, seq(empty(), times(n, 0, 1))) }))
	}
}

// layers is ways of laying one node more around a tree.
func layers() []func(api.Node) api.Node {
	return []func(api.Node) api.Node{
		maybe,
		func(n api.Node) api.Node { return times(n, 0, 0) },
		func(n api.Node) api.Node { return seq(n, empty()) },
		func(n api.Node) api.Node { return seq(empty(), empty(), n) },
		func(n api.Node) api.Node { return alt(empty(), n) },
		func(n api.Node) api.Node { return alt(n, empty(), empty()) },
	}
}

// P5.1: a depth of 256 is right, of 257 isn't, of whatever kinds, wherever the deepest Sub stands; so with a great one.
func TestRightDepth(t *testing.T) {
	for _, lay := range layers() {
		for _, leaf := range []api.Node{empty(), set("a"), begin()} {
			wantRight(t, around(leaf, 255, lay))
			wantWrong(t, around(leaf, 256, lay))
			wantWrong(t, around(leaf, 257, lay))
		}
		wantWrong(t, seq(empty(), around(empty(), 255, lay)))
		wantRight(t, seq(empty(), around(empty(), 254, lay)))
	}
	deep := around(set("a"), 1<<16, maybe)
	if tree.Right(deep) {
		t.Error("Right of a tree of depth 2^16 + 1 = true")
	}
	if _, e := tree.Print(deep); e != api.ErrTree {
		t.Errorf("Print of a tree of depth 2^16 + 1: %d", e)
	}
	if _, e := tree.Plain(deep); e != api.ErrTree {
		t.Errorf("Plain of a tree of depth 2^16 + 1: %d", e)
	}
}

// P5.1: the machine's beginning is a place: 2047 of a tree are right, 2048 aren't.
func TestRightPlaces(t *testing.T) {
	a := set("a")
	wantRight(t, seq(some(a, 2047)...))
	wantWrong(t, seq(some(a, 2048)...))
	wantRight(t, alt(some(a, 1023)...))
	wantWrong(t, alt(append(some(a, 1023), empty())...))
	wantRight(t, seq(append(some(times(a, 255, 255), 8), some(begin(), 7)...)...))
	wantWrong(t, seq(append(some(times(a, 255, 255), 8), some(end(), 8)...)...))
	wantRight(t, times(times(a, 0, 88), 0, 23-1)) // 89 places, 22 times, and one
	wantRight(t, times(times(a, 45, 45), 45, 45))
	wantWrong(t, times(times(a, 45, 45), 46, 46))
	wantWrong(t, times(times(a, 255, 255), 255, 255))
	wantWrong(t, around(a, 20, func(n api.Node) api.Node { return times(n, 255, -1) }))
	wantRight(t, around(empty(), 20, func(n api.Node) api.Node { return times(n, 255, -1) }))
	wantRight(t, seq(some(empty(), 100000)...))
	wantRight(t, times(times(begin(), 0, -1), 255, 255))
}

// P5.1: whatever is done to a tree.
func TestRightByChance(t *testing.T) {
	c := chooser{rand.New(rand.NewSource(51))}
	yes := 0
	for range 20000 {
		n := c.spoil(c.tree(c.one(1, 2, 3, 4)))
		want := slowRight(n)
		if tree.Right(n) != want {
			t.Fatalf("Right(%s) = %v", tell(n), !want)
		}
		if want {
			yes++
		} else {
			wantWrong(t, n)
		}
	}
	if yes < 1000 || yes > 19000 {
		t.Errorf("%d of 20000 are right: they tell little", yes)
	}
}

// P5.2: the chapter's examples.
func TestPrintExamples(t *testing.T) {
	a, b, c := set("a"), set("b"), set("c")
	wantText(t, empty(), "")
	wantText(t, a, "a")
	wantText(t, set("."), "\\.")
	wantText(t, but(""), ".")
	wantText(t, set("ab"), "[ab]")
	wantText(t, set("abc"), "[a-c]")
	wantText(t, set("]"), "]")
	wantText(t, set("]a-"), "[]a-]")
	wantText(t, set("^-"), "[-^]")
	wantText(t, set("[^"), "[[^]")
	wantText(t, set("+,-."), "[+,.-]")
	wantText(t, nothing(), "[^]\x00-\x09\x0b-,.-Z\\_-\xff[^-]")
	wantText(t, seq(a, seq(b, c)), "a(bc)")
	wantText(t, seq(a, empty()), "a()")
	wantText(t, alt(a, empty()), "a|")
	wantText(t, alt(empty(), empty(), empty()), "||")
	wantText(t, alt(a, alt(b, c)), "a|(b|c)")
	wantText(t, seq(alt(a, b), end()), "(a|b)$")
	wantText(t, times(a, 0, -1), "a*")
	wantText(t, times(times(a, 0, 1), 2, 2), "(a?){2}")
	wantText(t, times(begin(), 3, -1), "(^){3,}")
	wantText(t, times(empty(), 0, 255), "(){0,255}")
	wantText(t, times(a, 1, 1), "a{1}")
}

// P5.2: each kind among the Subs of each.
func TestPrintKinds(t *testing.T) {
	a, b := set("a"), set("b")
	wantText(t, begin(), "^")
	wantText(t, end(), "$")
	for _, x := range []struct {
		n                  api.Node
		text, inSeq, inAlt string
	}{
		{empty(), "", "()", ""}, {begin(), "^", "^", "^"}, {end(), "$", "$", "$"}, {set("*"), "\\*", "\\*", "\\*"}, {nothing(), slowSet(api.Set{}), slowSet(api.Set{}), slowSet(api.Set{})},
		{seq(a, b), "ab", "(ab)", "ab"}, {alt(a, b), "a|b", "(a|b)", "(a|b)"}, {times(b, 1, -1), "b+", "b+", "b+"}, {times(seq(a, b), 1, -1), "(ab)+", "(ab)+", "(ab)+"},
	} {
		wantText(t, x.n, x.text)
		wantText(t, seq(x.n, a), x.inSeq+"a")
		wantText(t, seq(a, x.n), "a"+x.inSeq)
		wantText(t, seq(a, x.n, x.n, b), "a"+x.inSeq+x.inSeq+"b")
		wantText(t, alt(x.n, a), x.inAlt+"|a")
		wantText(t, alt(a, x.n), "a|"+x.inAlt)
		wantText(t, alt(a, x.n, x.n), "a|"+x.inAlt+"|"+x.inAlt)
		atom := "(" + x.text + ")"
		if x.n.Kind == api.NodeSet {
			atom = x.text
		}
		wantText(t, times(x.n, 0, -1), atom+"*")
		wantText(t, seq(a, times(x.n, 2, 3)), "a"+atom+"{2,3}")
	}
}

// P5.2: each form of a repeat, with all counts.
func TestPrintRepeats(t *testing.T) {
	a := set("a")
	for text, counts := range map[string][2]int{"*": {0, -1}, "+": {1, -1}, "?": {0, 1}, "{0}": {0, 0}, "{1}": {1, 1}, "{2}": {2, 2}, "{255}": {255, 255}, "{2,}": {2, -1}, "{255,}": {255, -1}, "{0,2}": {0, 2}, "{1,2}": {1, 2}, "{9,10}": {9, 10}, "{99,100}": {99, 100}, "{0,255}": {0, 255}, "{254,255}": {254, 255}} {
		wantText(t, times(a, counts[0], counts[1]), "a"+text)
		wantText(t, times(set("ab"), counts[0], counts[1]), "[ab]"+text)
		wantText(t, times(empty(), counts[0], counts[1]), "()"+text)
	}
	for least := range 256 {
		for most := least - 1; most < 256; most += 1 + most/20 {
			n := times(a, least, max(most, -1))
			if most < least {
				n.Max = -1
			}
			wantText(t, n, slowText(n))
		}
	}
}

// P5.2: each byte by itself, and all bytes but it.
func TestPrintEachByte(t *testing.T) {
	for b := range 256 {
		one := string([]byte{byte(b)})
		if b == 10 {
			wantWrong(t, set(one))
			continue
		}
		text := one
		if strings.Contains(".[()*+?{|^$\\", one) {
			text = "\\" + one
		}
		wantText(t, set(one), text)
		wantText(t, seq(set(one), set("a")), text+"a")
		wantText(t, times(set(one), 0, -1), text+"*")
		wantText(t, but(one), "[^"+one+"]")
	}
}

// P5.2: the brackets' four bytes, alone and with others, and none of them; the '^' that would turn the Set about.
func TestPrintBrackets(t *testing.T) {
	for bytes, text := range map[string]string{
		"]a": "[]a]", "[a": "[a[]", "^a": "[a^]", "-a": "[a-]", "][": "[][]", "]^": "[]^]", "]-": "[]-]", "[^": "[[^]", "[-": "[[-]", "^-": "[-^]", "][^": "[][^]", "][-": "[][-]", "]^-": "[]^-]", "[^-": "[[^-]", "][^-": "[][^-]", "][^-a": "[]a[^-]", "^-a": "[a^-]",
		"Z[\\]^_`": "[]Z\\_`[^]", "YZ[\\]^_`a": "[]YZ\\_-a[^]", "XYZ[": "[X-Z[]", "\\]": "[]\\]", ",-.": "[,.-]", "+,-./": "[+,./-]", "*+,-./0": "[*-,.-0-]",
		"[.": "[.[]", "[=": "[=[]", "[:": "[:[]", "*?": "[*?]", "()": "[()]", "\t\x0b": "[\t\x0b]", "\x00\x01": "[\x00\x01]", "\x00\x01\x02": "[\x00-\x02]", "\xfe\xff": "[\xfe\xff]", "\xfd\xfe\xff": "[\xfd-\xff]", "\x00\xff": "[\x00\xff]", "a\xff\xfeb": "[ab\xfe\xff]",
		"\x07\x08\t\x0b\x0c\r": "[\x07-\t\x0b-\r]", "ac": "[ac]", "abd": "[abd]", "abde": "[abde]", "abcd": "[a-d]", "abcefgi": "[a-ce-gi]",
	} {
		wantText(t, set(bytes), text)
		turned := strings.Replace("[^"+text[1:], "[^-^]", "[^^-]", 1)
		wantText(t, but(bytes), turned)
	}
}

// P5.2: a Set of 128 bytes is told by them, one of 129 by the others.
func TestPrintManyBytes(t *testing.T) {
	wantText(t, from(128, 255), "[\x80-\xff]")
	wantText(t, from(127, 255), "[^]\x00-\t\x0b-,.-Z\\_-~[^-]")
	wantText(t, from(0, 128), "[]\x00-\t\x0b-,.-Z\\_-\x80[^-]")
	wantText(t, from(0, 129), "[^\x82-\xff]")
	wantText(t, from(0, 254), "[^\xff]")
	wantText(t, from(1, 255), "[^\x00]")
	wantText(t, from(2, 255), "[^\x00\x01]")
	wantText(t, from(3, 255), "[^\x00-\x02]")
	wantText(t, from(0, 252), "[^\xfd-\xff]")
}

// P5.2, P5.7: all subsets of the bytes around the four, turned about too, against the chapter's words read byte by byte.
func TestPrintAllBrackets(t *testing.T) {
	near := ",-.Z[\\]^_`"
	for bits := range 1 << len(near) {
		bytes := ""
		for i := range len(near) {
			if bits>>i&1 == 1 {
				bytes += near[i : i+1]
			}
		}
		wantText(t, set(bytes), slowSet(set(bytes).Set))
		wantText(t, but(bytes), slowSet(but(bytes).Set))
	}
	c := chooser{rand.New(rand.NewSource(52))}
	for range 5000 {
		n := c.someSet()
		wantText(t, n, slowSet(n.Set))
	}
}

// P5.2: 64 '(' in one another are a text, 65 are ErrDeep, of whatever kinds; '(' beside one another, escaped or in sets don't count.
func TestPrintDeep(t *testing.T) {
	a := set("a")
	wantText(t, around(times(a, 0, 1), 64, maybe), many("(", 64)+"a?"+many(")?", 64))
	wantNoText(t, around(times(a, 0, 1), 65, maybe), api.ErrDeep)
	wantNoText(t, around(a, 255, maybe), api.ErrDeep)
	inSeq := func(n api.Node) api.Node { return seq(a, n) }
	wantText(t, around(seq(a, a), 64, inSeq), many("a(", 64)+"aa"+many(")", 64))
	wantNoText(t, around(seq(a, a), 65, inSeq), api.ErrDeep)
	wantText(t, around(empty(), 64, inSeq), many("a(", 64)+many(")", 64))
	wantNoText(t, around(empty(), 65, inSeq), api.ErrDeep)
	wantText(t, around(a, 65, inSeq), many("a(", 64)+"aa"+many(")", 64))
	inAlt := func(n api.Node) api.Node { return alt(n, a) }
	wantText(t, around(alt(a, a), 64, inAlt), many("(", 64)+"a|a"+many(")|a", 64))
	wantNoText(t, around(alt(a, a), 65, inAlt), api.ErrDeep)
	inBoth := func(n api.Node) api.Node { return alt(a, seq(a, n)) } // a Seq has none in an Alt
	wantText(t, around(alt(a, a), 64, inBoth), many("a|a(", 64)+"a|a"+many(")", 64))
	wantNoText(t, around(alt(a, a), 65, inBoth), api.ErrDeep)
	wantNoText(t, seq(a, around(alt(a, a), 64, inAlt), a), api.ErrDeep)
	wantNoText(t, seq(empty(), a, around(times(a, 0, 1), 65, maybe), empty()), api.ErrDeep)
	wantText(t, seq(some(empty(), 100)...), many("()", 100))
	wantText(t, seq(some(set("("), 100)...), many("\\(", 100))
	wantText(t, seq(some(set("(a"), 100)...), many("[(a]", 100))
	wantText(t, around(times(set("("), 0, 1), 64, maybe), many("(", 64)+"\\(?"+many(")?", 64))
}

// P5.2: 1024 bytes are a text, 1025 are ErrLong.
func TestPrintLong(t *testing.T) {
	a := set("a")
	wantText(t, seq(some(a, 1024)...), many("a", 1024))
	wantNoText(t, seq(some(a, 1025)...), api.ErrLong)
	wantText(t, seq(some(set("*"), 512)...), many("\\*", 512))
	wantNoText(t, seq(append(some(set("*"), 512), a)...), api.ErrLong)
	wantText(t, alt(some(empty(), 1025)...), many("|", 1024))
	wantNoText(t, alt(some(empty(), 1026)...), api.ErrLong)
	wantNoText(t, alt(append(some(empty(), 1024), a, a)...), api.ErrLong)
	wantNoText(t, seq(some(empty(), 513)...), api.ErrLong)
	wantText(t, seq(some(empty(), 512)...), many("()", 512))
	wantNoText(t, seq(some(nothing(), 100)...), api.ErrLong)
	wantText(t, seq(append(some(times(set("ab"), 10, 10), 127), some(a, 8)...)...), many("[ab]{10}", 127)+many("a", 8))
	wantNoText(t, seq(append(some(times(set("ab"), 10, 10), 127), some(a, 9)...)...), api.ErrLong)
	wantNoText(t, seq(some(empty(), 1<<18)...), api.ErrLong)
}

// P5.2: ErrTree comes ahead of ErrDeep, that ahead of ErrLong.
func TestPrintErrorsInOrder(t *testing.T) {
	a := set("a")
	deep := around(a, 66, maybe)
	long := seq(some(a, 1025)...)
	wantNoText(t, deep, api.ErrDeep)
	wantNoText(t, long, api.ErrLong)
	wantNoText(t, seq(long, deep), api.ErrDeep)
	wantNoText(t, seq(deep, long), api.ErrDeep)
	wantWrong(t, seq(deep, long, api.Node{}))
	wantWrong(t, seq(deep, seq(some(a, 2048)...)))
	wantWrong(t, around(a, 256, maybe))
}

// P5.2, P5.7: trees by chance: the text, what it is read as, and that no two trees share one.
func TestPrintByChance(t *testing.T) {
	c := chooser{rand.New(rand.NewSource(53))}
	by := map[string]api.Node{}
	answers := map[api.Errno]int{}
	for range 8000 {
		n := c.tree(c.one(1, 2, 3, 4, 5))
		if c.Intn(4) == 0 {
			n = around(n, c.one(3, 50, 63, 64, 65, 66), layers()[c.Intn(len(layers()))])
		}
		if c.Intn(4) == 0 {
			n = seq(n, c.tree(3), alt(some(c.tree(3), c.one(2, 10, 60))...))
		}
		want, wantE := slowPrint(n)
		got, e := tree.Print(n)
		if got != want || e != wantE {
			t.Fatalf("Print(%s) = %q, %d, want %q, %d", tell(n), got, e, want, wantE)
		}
		answers[e]++
		if e != api.OK {
			continue
		}
		if back, _, e := ere.Parse(got); !same(back, n) || e != api.OK {
			t.Fatalf("%q is read as %s, %d, want %s", got, tell(back), e, tell(n))
		}
		if other, met := by[got]; met && !same(other, n) {
			t.Fatalf("%q is the text of %s and of %s", got, tell(n), tell(other))
		}
		by[got] = n
	}
	if answers[api.OK] < 4000 || answers[api.ErrDeep] < 100 || answers[api.ErrLong] < 10 {
		t.Errorf("the answers were %v: they tell little", answers)
	}
}

// P5.7: what is read is right, and is printed as a text that is read as the same.
func TestParsedIsRight(t *testing.T) {
	c := chooser{rand.New(rand.NewSource(57))}
	read := 0
	for range 20000 {
		p := ""
		for range c.Intn(12) {
			p += []string{"a", "b", "(", ")", "()", "(a", "b)", "|", "*", "+", "?", "{2}", "{1,}", "{0,3}", "^", "$", ".", "\\.", "[a-c]", "[^]x-]", "[[:alpha:]_]", "]", "}", "-"}[c.Intn(24)]
		}
		n, _, e := ere.Parse(p)
		if e != api.OK {
			continue
		}
		read++
		if !tree.Right(n) {
			t.Fatalf("Right of the tree of %q = false", p)
		}
		text, e := tree.Print(n)
		if back, _, f := ere.Parse(text); e != api.OK || f != api.OK || !same(back, n) {
			t.Fatalf("%q is printed as %q, %d, which is read as %s, %d", p, text, e, tell(back), f)
		}
	}
	if read < 1000 {
		t.Errorf("%d patterns are some: they tell little", read)
	}
	if n, _, e := ere.Parse("((a{45}){45}){1}"); e != api.OK || !tree.Right(n) {
		t.Errorf("Right of a tree of 2025 places = false, %d", e)
	}
}

// P5.3: the chapter's examples.
func TestPlainExamples(t *testing.T) {
	a, b, c := set("a"), set("b"), set("c")
	wantPlain(t, seq(a, empty(), seq(b, begin(), begin())), seq(a, b, begin()))
	wantPlain(t, alt(a, c, alt(b, empty()), empty()), alt(set("abc"), empty()))
	wantPlain(t, alt(a, a), a)
	wantPlain(t, times(times(a, 0, -1), 2, 5), times(a, 0, -1))
	wantPlain(t, times(begin(), 0, 9), empty())
	wantPlain(t, seq(a, nothing()), nothing())
	wantPlain(t, times(nothing(), 0, 3), empty())
}

// P5.3: trees that are the plainest already.
func TestPlainStays(t *testing.T) {
	a, b := set("a"), set("b")
	for _, n := range []api.Node{empty(), begin(), end(), nothing(), a, but(""), seq(a, b), seq(a, a), seq(begin(), end(), begin()), seq(end(), a, end()), seq(begin(), a, begin()), alt(a, empty()), alt(empty(), a), alt(begin(), end()), alt(seq(a, b), seq(b, a), a), seq(alt(a, empty()), b), alt(times(a, 0, 1), times(a, 0, 2), times(a, 1, 2), times(a, 2, 2)), times(a, 0, -1), times(a, 1, -1), times(a, 0, 1), times(a, 2, 2), times(a, 1, 2), times(a, 255, 255), times(times(a, 1, -1), 0, -1), times(times(a, 0, 1), 0, -1), times(times(a, 2, 3), 4, 5), times(seq(begin(), a), 0, 1), times(alt(begin(), end()), 0, 1), times(seq(begin(), end()), 2, 3), times(alt(a, empty()), 3, 3)} {
		wantPlain(t, n, n)
	}
}

// P5.3: rows.
func TestPlainSeq(t *testing.T) {
	a, b, c := set("a"), set("b"), set("c")
	wantPlain(t, seq(empty(), empty()), empty())
	wantPlain(t, seq(a, empty()), a)
	wantPlain(t, seq(empty(), begin(), empty()), begin())
	wantPlain(t, seq(seq(a, b), c), seq(a, b, c))
	wantPlain(t, seq(a, seq(b, seq(c, a))), seq(a, b, c, a))
	wantPlain(t, seq(seq(a, b), seq(b, a), seq(c, c)), seq(a, b, b, a, c, c))
	wantPlain(t, seq(begin(), begin()), begin())
	wantPlain(t, seq(end(), end(), end()), end())
	wantPlain(t, seq(begin(), empty(), begin(), a, end(), empty(), empty(), end()), seq(begin(), a, end()))
	wantPlain(t, seq(end(), empty(), end(), begin(), end()), seq(end(), begin(), end()))
	wantPlain(t, seq(seq(a, begin()), seq(begin(), b)), seq(a, begin(), b))
	wantPlain(t, seq(seq(a, end()), end()), seq(a, end()))
	wantPlain(t, seq(times(begin(), 1, 1), times(begin(), 3, 3), a), seq(begin(), a))
	wantPlain(t, seq(begin(), a, begin()), seq(begin(), a, begin()))
	wantPlain(t, seq(nothing(), a), nothing())
	wantPlain(t, seq(begin(), a, seq(b, nothing()), c), nothing())
	wantPlain(t, seq(empty(), nothing()), nothing())
	wantPlain(t, seq(alt(nothing(), seq(a, b)), c), seq(a, b, c))
	wantPlain(t, seq(times(seq(a, b), 1, 1), c), seq(a, b, c))
	wantPlain(t, seq(alt(a, seq(b, empty())), c), seq(set("ab"), c))
	wantPlain(t, seq(times(nothing(), 0, -1), a), a)
	wantPlain(t, seq(a, a), seq(a, a))
}

// P5.3: alternatives.
func TestPlainAlt(t *testing.T) {
	a, b, c := set("a"), set("b"), set("c")
	wantPlain(t, alt(nothing(), nothing()), nothing())
	wantPlain(t, alt(nothing(), begin()), begin())
	wantPlain(t, alt(end(), nothing(), end()), end())
	wantPlain(t, alt(empty(), empty(), empty()), empty())
	wantPlain(t, alt(a, b), set("ab"))
	wantPlain(t, alt(a, begin(), b, end(), c), alt(set("abc"), begin(), end()))
	wantPlain(t, alt(begin(), a, end(), set("ab")), alt(begin(), set("ab"), end()))
	wantPlain(t, alt(nothing(), begin(), a, nothing(), b), alt(begin(), set("ab")))
	wantPlain(t, alt(a, but("a")), but(""))
	wantPlain(t, alt(alt(begin(), a), alt(b, begin(), end())), alt(begin(), set("ab"), end()))
	wantPlain(t, alt(alt(alt(a, empty()), end()), alt(empty(), alt(b, begin()))), alt(set("ab"), empty(), end(), begin()))
	wantPlain(t, alt(seq(a, b), c, seq(a, times(b, 1, 1)), set("d")), alt(seq(a, b), set("cd")))
	wantPlain(t, alt(seq(a, b), seq(a, c), seq(a, b)), alt(seq(a, b), seq(a, c)))
	wantPlain(t, alt(times(a, 0, 1), times(a, 0, 2), times(b, 0, 1), times(a, 0, 1)), alt(times(a, 0, 1), times(a, 0, 2), times(b, 0, 1)))
	wantPlain(t, alt(times(a, 1, -1), times(a, 2, -1), times(a, 2, 2), times(a, 1, 2)), alt(times(a, 1, -1), times(a, 2, -1), times(a, 2, 2), times(a, 1, 2)))
	wantPlain(t, alt(seq(a, b), seq(a, b, a), seq(a, b)), alt(seq(a, b), seq(a, b, a)))
	wantPlain(t, alt(seq(empty(), alt(a, end())), b), alt(set("ab"), end()))
	wantPlain(t, alt(times(alt(a, end()), 1, 1), end(), b), alt(set("ab"), end()))
	wantPlain(t, alt(seq(a, nothing()), times(a, 0, 0)), empty())
	wantPlain(t, alt(times(nothing(), 1, 1), nothing()), nothing())
}

// P5.3: repeats, of each plainest Sub that is told by itself.
func TestPlainTimes(t *testing.T) {
	a, b := set("a"), set("b")
	all := [][2]int{{0, -1}, {0, 0}, {0, 1}, {0, 255}, {1, -1}, {1, 1}, {1, 2}, {2, -1}, {2, 2}, {2, 5}, {255, 255}, {255, -1}}
	for _, counts := range all {
		least, most := counts[0], counts[1]
		fromNone := func(n api.Node) api.Node {
			if least == 0 {
				return empty()
			}
			return n
		}
		unlessNone := func(n api.Node) api.Node {
			if most == 0 {
				return empty()
			}
			return n
		}
		wantPlain(t, times(empty(), least, most), empty())
		wantPlain(t, times(alt(empty(), empty()), least, most), empty())
		wantPlain(t, times(seq(empty(), empty()), least, most), empty())
		wantPlain(t, times(times(a, 0, 0), least, most), empty())
		wantPlain(t, times(nothing(), least, most), fromNone(nothing()))
		wantPlain(t, times(alt(nothing(), nothing()), least, most), fromNone(nothing()))
		wantPlain(t, times(begin(), least, most), fromNone(begin()))
		wantPlain(t, times(end(), least, most), fromNone(end()))
		wantPlain(t, times(seq(end(), end()), least, most), fromNone(end()))
		wantPlain(t, times(times(a, 0, -1), least, most), unlessNone(times(a, 0, -1)))
		once := counts == [2]int{1, 1}
		for _, x := range []api.Node{a, times(a, 1, -1), times(a, 0, 1), times(a, 2, 2), times(a, 1, 2), alt(a, empty()), times(seq(a, b), 0, 1)} {
			want := times(x, least, most)
			if once {
				want = x
			}
			wantPlain(t, times(x, least, most), unlessNone(want))
			wantPlain(t, times(seq(empty(), x), least, most), unlessNone(want))
		}
	}
	wantPlain(t, times(seq(a, b), 1, 1), seq(a, b))
	wantPlain(t, around(a, 255, func(n api.Node) api.Node { return times(n, 0, -1) }), times(a, 0, -1))
	wantPlain(t, around(a, 255, func(n api.Node) api.Node { return times(n, 1, 1) }), a)
	wantPlain(t, around(a, 255, maybe), around(a, 255, maybe))
}

// lines is all lines of at most three bytes out of a few.
func lines() []string {
	all := []string{""}
	for i := 0; len(all[i]) < 3; i++ {
		for _, b := range "axy(" {
			all = append(all, all[i]+string(b))
		}
	}
	return all
}

// P5.3, P5.7: trees by chance: the plainest tree by the chapter's rules; it takes the same pieces, is right, no deeper, without more places, and its own plainest.
func TestPlainByChance(t *testing.T) {
	c := chooser{rand.New(rand.NewSource(54))}
	all := lines()
	for i := range 12000 {
		n := c.tree(c.one(1, 2, 3, 4, 5))
		got, e := tree.Plain(n)
		if !slowRight(n) {
			if e != api.ErrTree {
				t.Fatalf("Plain(%s): %d", tell(n), e)
			}
			continue
		}
		if want := slowPlain(n); !same(got, want) || e != api.OK {
			t.Fatalf("Plain(%s) = %s, %d, want %s", tell(n), tell(got), e, tell(want))
		}
		if !slowRight(got) || slowDepth(got) > slowDepth(n) || slowPlaces(got).Cmp(slowPlaces(n)) > 0 {
			t.Fatalf("Plain(%s) = %s: no right tree, or a greater one", tell(n), tell(got))
		}
		if again, e := tree.Plain(got); !same(again, got) || e != api.OK {
			t.Fatalf("Plain(%s) = %s, %d: another one", tell(got), tell(again), e)
		}
		for _, line := range []string{all[i%len(all)], all[c.Intn(len(all))]} {
			if !slices.Equal(slowPieces(n, line), slowPieces(got, line)) {
				t.Fatalf("%s and its plainest tree %s don't take the same of %q", tell(n), tell(got), line)
			}
		}
	}
}

// P5.4: the chapter's examples, and each kind, at each place.
func TestNullable(t *testing.T) {
	a := set("a")
	for want, list := range map[string][]api.Node{
		"xxxx": {empty(), times(a, 0, 2), times(a, 0, -1), times(a, 0, 0), times(nothing(), 0, 1), times(empty(), 3, 3), times(times(a, 0, 1), 2, 2), seq(empty(), empty()), seq(times(a, 0, 1), empty(), times(a, 0, -1)), alt(a, empty()), alt(empty(), a), alt(nothing(), a, empty()), times(begin(), 0, 1), alt(begin(), empty()), times(alt(a, empty()), 5, -1)},
		"....": {a, nothing(), but(""), seq(a, empty()), seq(empty(), a), seq(empty(), empty(), a), alt(a, nothing()), times(a, 1, 1), times(a, 1, -1), times(a, 255, 255), times(seq(a, empty()), 2, 3), seq(begin(), a), seq(a, end()), alt(seq(begin(), a), seq(a, end()))},
		".x.x": {begin(), seq(begin(), begin()), seq(begin(), empty()), alt(a, begin()), times(begin(), 1, -1), times(begin(), 2, 2), seq(times(a, 0, -1), begin()), alt(begin(), seq(begin(), end()))},
		"..xx": {end(), seq(empty(), end()), alt(end(), a), times(end(), 1, 1), times(alt(a, end()), 3, 5)},
		"...x": {seq(begin(), end()), seq(end(), begin()), seq(begin(), times(a, 0, 1), end()), times(seq(begin(), end()), 1, 2)},
		".xxx": {alt(begin(), end()), alt(begin(), end(), a), times(alt(begin(), end()), 2, 2), seq(alt(begin(), end()), alt(end(), begin()))},
	} {
		for _, n := range list {
			wantNullable(t, n, want)
		}
	}
}

// P5.4: trees by chance, against lines that have such a place.
func TestNullableByChance(t *testing.T) {
	c := chooser{rand.New(rand.NewSource(55))}
	for range 20000 {
		n := c.tree(c.one(1, 2, 3, 4))
		if !slowRight(n) {
			continue
		}
		for _, at := range [][2]bool{{false, false}, {true, false}, {false, true}, {true, true}} {
			want := slowNullable(n, at[0], at[1])
			if is, e := tree.Nullable(n, at[0], at[1]); is != want || e != api.OK {
				t.Fatalf("Nullable(%s, %v) = %v, %d", tell(n), at, is, e)
			}
		}
	}
}

// P5.5: the chapter's examples.
func TestSpreadExamples(t *testing.T) {
	a, b := set("a"), set("b")
	wantSpread(t, seq(a, times(b, 2, 5)), 3, 6)
	wantSpread(t, times(a, 1, -1), 1, -1)
	wantSpread(t, times(begin(), 1, -1), 0, 0)
	wantSpread(t, nothing(), -1, 0)
	wantSpread(t, alt(nothing(), a), 1, 1)
	wantSpread(t, times(nothing(), 0, -1), 0, 0)
}

// P5.5: each kind; where there is no greatest number; trees that take nothing at all.
func TestSpread(t *testing.T) {
	a, b := set("a"), set("b")
	star := times(a, 0, -1)
	for want, list := range map[[2]int][]api.Node{
		{0, 0}:  {empty(), begin(), end(), seq(begin(), end()), alt(begin(), empty()), times(empty(), 0, -1), times(empty(), 5, 5), times(seq(begin(), end()), 3, -1), times(star, 0, 0), times(nothing(), 0, 0), times(nothing(), 0, 9), alt(nothing(), end()), times(times(empty(), 2, 2), 0, -1), times(times(nothing(), 0, -1), 1, -1), times(times(a, 0, 0), 2, -1)},
		{1, 1}:  {a, but(""), set("abc"), seq(begin(), a, end()), seq(a, empty()), alt(a, b), times(a, 1, 1), alt(seq(a, nothing()), a)},
		{0, 1}:  {times(a, 0, 1), alt(a, empty()), alt(begin(), a), alt(nothing(), empty(), a), alt(a, end(), nothing())},
		{2, 5}:  {times(a, 2, 5), alt(times(a, 3, 4), seq(b, b), times(b, 5, 5)), seq(a, a, times(times(b, 0, 1), 3, 3)), alt(times(a, 5, 5), times(a, 2, 2))},
		{2, -1}: {seq(star, a, b), seq(a, star, b), seq(a, b, star), times(a, 2, -1), times(times(a, 1, -1), 2, 2), times(times(a, 1, -1), 2, -1), alt(times(a, 2, -1), times(b, 7, 9)), alt(times(b, 7, 9), times(a, 2, -1)), alt(times(a, 2, -1), times(a, 3, -1)), seq(star, times(a, 2, -1), star), seq(a, times(times(star, 1, 1), 0, 1), a)},
		{0, -1}: {star, times(star, 0, 1), times(star, 2, 5), times(star, 0, -1), alt(empty(), times(a, 5, -1)), alt(times(a, 5, -1), end()), times(alt(a, begin()), 1, -1), times(alt(empty(), a), 3, -1)},
		{-1, 0}: {nothing(), seq(a, nothing()), seq(nothing(), star), seq(star, nothing(), a), alt(nothing(), nothing()), alt(seq(a, nothing()), nothing()), times(nothing(), 1, 1), times(nothing(), 2, 2), times(nothing(), 1, -1), times(seq(a, nothing()), 3, 4), seq(a, alt(nothing(), seq(nothing(), a)), b)},
		{6, 20}: {times(times(a, 3, 5), 2, 4), times(seq(a, a, times(b, 1, 3)), 2, 4), seq(times(a, 4, 10), times(b, 2, 10))},
	} {
		for _, n := range list {
			wantSpread(t, n, want[0], want[1])
		}
	}
	wantSpread(t, seq(some(a, 2047)...), 2047, 2047)
	wantSpread(t, times(times(a, 45, 45), 45, 45), 2025, 2025)
	wantSpread(t, times(times(a, 0, 88), 0, 22), 0, 88*22)
	wantSpread(t, around(empty(), 255, func(n api.Node) api.Node { return times(n, 255, 255) }), 0, 0)
}

// P5.5, P5.7: trees by chance, against all numbers of bytes tried out, and against the pieces of lines.
func TestSpreadByChance(t *testing.T) {
	c := chooser{rand.New(rand.NewSource(56))}
	all := lines()
	for i := range 3000 {
		n := c.tree(c.one(1, 2, 3, 3, 4))
		least, most := slowSpread(n)
		if !slowRight(n) || most >= far/2 { // too many to be tried out
			continue
		}
		wantSpread(t, n, least, most)
		line := all[i%len(all)]
		for at, ends := range slowPieces(n, line) {
			for to := range len(line) + 1 {
				if ends>>to&1 == 1 && (least < 0 || to-at < least || most >= 0 && to-at > most) {
					t.Fatalf("%s takes %q from %d to %d, its spread is %d, %d", tell(n), line, at, to, least, most)
				}
			}
		}
	}
}

// lists is all lists of Subs of a tree, at every depth, with the room behind each.
func lists(t api.Node) [][]api.Node {
	var all [][]api.Node
	if cap(t.Subs) > 0 {
		all = append(all, t.Subs[:cap(t.Subs)])
	}
	for _, sub := range t.Subs {
		all = append(all, lists(sub)...)
	}
	return all
}

// roomy is a tree whose lists all have room behind them, the empty ones too, with nodes in it that aren't its own.
func roomy(t api.Node) api.Node {
	subs := make([]api.Node, 0, len(t.Subs)+2)
	for _, sub := range t.Subs {
		subs = append(subs, roomy(sub))
	}
	room := append(subs, api.Node{Kind: 77, Min: 7}, api.Node{Kind: 78, Max: 8})
	t.Subs = room[:len(t.Subs)]
	return t
}

// deepCopy is a tree in other memory, the room behind its lists too.
func deepCopy(t api.Node) api.Node {
	n := len(t.Subs)
	var room []api.Node
	for _, sub := range t.Subs[:cap(t.Subs)] {
		room = append(room, deepCopy(sub))
	}
	t.Subs = room[:n]
	return t
}

// sameRoom tells whether two trees are the same, the room behind their lists too.
func sameRoom(a, b api.Node) bool {
	return a.Kind == b.Kind && a.Set == b.Set && a.Min == b.Min && a.Max == b.Max && len(a.Subs) == len(b.Subs) && slices.EqualFunc(a.Subs[:cap(a.Subs)], b.Subs[:len(b.Subs)+cap(a.Subs)-len(a.Subs)], sameRoom)
}

// wantNew asks all calls about a tree, and tells by writing over what was answered whether it shares memory with anything.
func wantNew(t *testing.T, n api.Node) {
	t.Helper()
	n = roomy(n)
	before := deepCopy(n)
	tree.Right(n)
	tree.Print(n)
	tree.Nullable(n, true, false)
	tree.Spread(n)
	first, _ := tree.Plain(n)
	if !sameRoom(n, before) {
		t.Fatalf("%s is changed", tell(before))
	}
	second, _ := tree.Plain(n)
	want := slowPlain(before)
	for _, list := range lists(first) {
		for i := range list {
			if list[i].Kind == 99 {
				t.Fatalf("two lists of Plain(%s) share memory", tell(before))
			}
			list[i] = api.Node{Kind: 99}
		}
	}
	if !sameRoom(n, before) {
		t.Fatalf("Plain(%s) shares memory with what was handed in", tell(before))
	}
	if !same(second, want) {
		t.Fatalf("two answers of Plain(%s) share memory", tell(before))
	}
	for _, list := range lists(n) {
		clear(list)
	}
	if !same(second, want) {
		t.Fatalf("Plain(%s) hangs on what was handed in", tell(before))
	}
}

// P5.6: all that is answered is new memory, and what is handed in stays as it is.
func TestMemory(t *testing.T) {
	a, b := set("a"), set("b")
	for _, n := range []api.Node{empty(), a, begin(), end(), nothing(), seq(a, b), alt(a, begin()), alt(a, b), times(a, 2, 2), seq(seq(a, b), seq(a, b)), alt(alt(end(), a), alt(begin(), b)), times(times(a, 0, -1), 0, 1), times(seq(a, b), 1, 1), seq(alt(a, empty()), times(seq(a, alt(b, end())), 0, 1)), seq(empty(), a), seq(empty(), seq(a, times(b, 1, 2))), alt(seq(a, b), seq(a, b)), alt(nothing(), times(a, 2, 3))} {
		wantNew(t, n)
	}
	c := chooser{rand.New(rand.NewSource(58))}
	for range 2000 {
		if n := c.tree(c.one(2, 3, 4)); slowRight(n) {
			wantNew(t, n)
		}
	}
}

// P5.6: lists that are shared in what is handed in are two in what is answered.
func TestMemoryOfShared(t *testing.T) {
	x := times(seq(set("a"), times(set("b"), 2, 3)), 0, 1)
	got, _ := tree.Plain(seq(x, set("c"), x, alt(x, end())))
	if len(got.Subs) != 4 {
		t.Fatalf("Plain = %s", tell(got))
	}
	got.Subs[0].Subs[0].Subs[1] = empty()
	if !same(got.Subs[2], x) || !same(got.Subs[3].Subs[0], x) {
		t.Errorf("two lists of one answer share memory: %s", tell(got))
	}
}

// P5.6 and the rules that hold everywhere: the same answers whoever asks, several at once.
func TestManyAtOnce(t *testing.T) {
	c := chooser{rand.New(rand.NewSource(59))}
	n := c.tree(5)
	for !slowRight(n) || slowDepth(n) < 4 {
		n = c.tree(5)
	}
	text, textE := slowPrint(n)
	plain := slowPlain(n)
	least, most, _ := tree.Spread(n)
	var wait sync.WaitGroup
	for range 8 {
		wait.Go(func() {
			for range 50 {
				p, e := tree.Print(n)
				q, f := tree.Plain(n)
				is, g := tree.Nullable(n, true, false)
				low, high, h := tree.Spread(n)
				if p != text || e != textE || !same(q, plain) || f+g+h != 0 || is != slowNullable(n, true, false) || low != least || high != most || !tree.Right(n) {
					t.Error("the answers hang on who asks")
					return
				}
			}
		})
	}
	wait.Wait()
}

// Every call ends soon: a tree that is as wide as it may be, and as deep, with alternatives in alternatives that are all unlike.
func TestGreatTrees(t *testing.T) {
	var unlike []api.Node
	for i := range 400 {
		unlike = append(unlike, times(set(fmt.Sprintf("%c%c", 'a'+i%26, 'A'+i/26)), 2, 2))
	}
	n := around(alt(unlike...), 200, func(n api.Node) api.Node { return alt(n, begin()) })
	if tree.Right(n) {
		got, e := tree.Plain(n)
		if len(got.Subs) != 401 || e != api.OK {
			t.Errorf("Plain of 200 alternatives in one another: %d Subs, %d", len(got.Subs), e)
		}
	} else {
		t.Errorf("%d places", ere.Places(n))
	}
	wide := around(seq(some(empty(), 1<<18)...), 50, func(n api.Node) api.Node { return seq(n, empty()) })
	wantPlain(t, wide, empty())
	wantNoText(t, wide, api.ErrLong)
	wantNullable(t, wide, "xxxx")
	wantSpread(t, wide, 0, 0)
}
