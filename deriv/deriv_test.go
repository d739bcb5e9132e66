package deriv_test

import (
	"fmt"
	"math/rand"
	"slices"
	"strings"
	"sync"
	"testing"
	"time"

	"heron/api"
	"heron/deriv"
	"heron/ere"
	"heron/tree"
)

// set is NodeSet of some bytes.
func set(bytes string) api.Node {
	n := api.Node{Kind: api.NodeSet}
	for i := range len(bytes) {
		n.Set[bytes[i]/64] |= 1 << (bytes[i] % 64)
	}
	return n
}

// but is NodeSet of all bytes but some and the newline.
func but(bytes string) api.Node {
	n := set(bytes + "\n")
	for i := range n.Set {
		n.Set[i] = ^n.Set[i]
	}
	return n
}

func empty() api.Node                { return api.Node{Kind: api.NodeEmpty} }
func begin() api.Node                { return api.Node{Kind: api.NodeBegin} }
func end() api.Node                  { return api.Node{Kind: api.NodeEnd} }
func nothing() api.Node              { return api.Node{Kind: api.NodeSet} }
func seq(subs ...api.Node) api.Node  { return api.Node{Kind: api.NodeSeq, Subs: subs} }
func alt(subs ...api.Node) api.Node  { return api.Node{Kind: api.NodeAlt, Subs: subs} }
func maybe(t api.Node) api.Node      { return times(t, 0, 1) }
func star(t api.Node) api.Node       { return times(t, 0, -1) }
func once(t api.Node) api.Node       { return times(t, 1, 1) }
func many(text string, n int) string { return strings.Repeat(text, n) }

func times(sub api.Node, least, most int) api.Node {
	return api.Node{Kind: api.NodeTimes, Subs: []api.Node{sub}, Min: least, Max: most}
}

// some is a tree so many times.
func some(t api.Node, n int) []api.Node {
	return slices.Repeat([]api.Node{t}, n)
}

// ahead is a row of some trees, and behind them another one so many times.
func ahead(t api.Node, n int, front ...api.Node) api.Node {
	return seq(append(front, some(t, n)...)...)
}

// around is a tree with a way of laying one around it done so many times.
func around(t api.Node, n int, lay func(api.Node) api.Node) api.Node {
	for range n {
		t = lay(t)
	}
	return t
}

// same tells whether two nodes are the same, an empty list being the same as none.
func same(a, b api.Node) bool {
	return a.Kind == b.Kind && a.Set == b.Set && a.Min == b.Min && a.Max == b.Max && slices.EqualFunc(a.Subs, b.Subs, same)
}

// tell is a node as text.
func tell(t api.Node) string {
	if text, e := tree.Print(t); e == api.OK && !same(t, nothing()) {
		return fmt.Sprintf("%.200q", text)
	}
	var subs []string
	for _, sub := range t.Subs {
		subs = append(subs, tell(sub))
	}
	return fmt.Sprintf("%d%x[%s]%d,%d", t.Kind, t.Set, strings.Join(subs, " "), t.Min, t.Max)
}

// parsed is a pattern's tree.
func parsed(t *testing.T, p string) api.Node {
	t.Helper()
	n, at, e := ere.Parse(p)
	if e != api.OK {
		t.Fatalf("Parse(%q): %d at %d", p, e, at)
	}
	return n
}

// wantTakes asks whether a tree takes the whole of a line, and some piece of it.
func wantTakes(t *testing.T, n api.Node, line string, whole, search bool) {
	t.Helper()
	if is, e := deriv.Whole(n, line); is != whole || e != api.OK {
		t.Errorf("Whole(%.200s, %.60q) = %v, %d", tell(n), line, is, e)
	}
	if is, e := deriv.Search(n, line); is != search || e != api.OK {
		t.Errorf("Search(%.200s, %.60q) = %v, %d", tell(n), line, is, e)
	}
}

// wantStep asks for a rest.
func wantStep(t *testing.T, n api.Node, b byte, begin bool, want api.Node) {
	t.Helper()
	if got, e := deriv.Step(n, b, begin); !same(got, want) || e != api.OK {
		t.Errorf("Step(%.200s, %q, %v) = %.200s, %d, want %.200s", tell(n), b, begin, tell(got), e, tell(want))
	}
}

// wantSteps asks for a rest that is the same at the line's beginning and further on.
func wantSteps(t *testing.T, n api.Node, b byte, want api.Node) {
	t.Helper()
	wantStep(t, n, b, true, want)
	wantStep(t, n, b, false, want)
}

// wantNoStep asks for a rest that is refused.
func wantNoStep(t *testing.T, n api.Node, b byte, begin bool, want api.Errno) {
	t.Helper()
	if got, e := deriv.Step(n, b, begin); !same(got, api.Node{}) || e != want {
		t.Errorf("Step(%.200s, %q, %v) = %.200s, %d, want %d", tell(n), b, begin, tell(got), e, want)
	}
}

// wantWrong asks all calls about a node that is no right tree.
func wantWrong(t *testing.T, n api.Node) {
	t.Helper()
	for _, line := range []string{"", "a"} {
		if is, e := deriv.Whole(n, line); is || e != api.ErrTree {
			t.Errorf("Whole of a wrong tree in %q = %v, %d", line, is, e)
		}
		if is, e := deriv.Search(n, line); is || e != api.ErrTree {
			t.Errorf("Search of a wrong tree in %q = %v, %d", line, is, e)
		}
	}
	for _, begin := range []bool{true, false} {
		if got, e := deriv.Step(n, 'a', begin); !same(got, api.Node{}) || e != api.ErrTree {
			t.Errorf("Step of a wrong tree = %.200s, %d", tell(got), e)
		}
	}
}

// P6.1, P6.2: the chapter's examples.
func TestTakesExamples(t *testing.T) {
	a, b := set("a"), set("b")
	wantTakes(t, a, "a", true, true)
	wantTakes(t, a, "", false, false)
	wantTakes(t, a, "aa", false, true)
	wantTakes(t, a, "b", false, false)
	wantTakes(t, a, "xay", false, true)
	wantTakes(t, empty(), "", true, true)
	wantTakes(t, empty(), "x", false, true)
	for _, line := range []string{"", "a", "\x00", "\n", "ab", many("a", 100)} {
		wantTakes(t, nothing(), line, false, false)
	}
	wantTakes(t, seq(begin(), a, end()), "a", true, true)
	wantTakes(t, seq(begin(), a, end()), "ba", false, false)
	wantTakes(t, seq(begin(), a, end()), "ab", false, false)
	wantTakes(t, seq(a, begin(), b), "ab", false, false)
	wantTakes(t, alt(seq(begin(), b), a), "b", true, true)
	wantTakes(t, times(alt(begin(), a), 2, 2), "a", true, true)
	wantTakes(t, end(), "xy", false, true)
	wantWrong(t, api.Node{})
}

// P6.1, P6.2: patterns on lines: W is taken whole, S in some piece, anything else not at all.
func TestTakesPatterns(t *testing.T) {
	for _, c := range []string{
		// bytes, sets, rows, alternatives
		"a|W|a", "a|S|ba", "a|S|ab", "a|-|b", "a|-|",
		"[ab]|W|b", "[ab]|-|c", "[^ab]|W|c", "[^ab]|-|a", "[^ab]|-|ab", ".|W|a", ".|-|", ".|S|aa",
		"abc|W|abc", "abc|S|xabcy", "abc|-|abxc", "abc|-|ab", "abc|S|ababc",
		"(ab|cd)|W|cd", "(ab|cd)|-|ad", "(a|ab)(c|bcd)|W|abcd", "(a|ab)(c|bcd)|W|ac", "(a|ab)(c|bcd)|S|abc ", "(|a)b|W|b", "(|a)b|W|ab", "(a|)(b|)|W|", "(a|)(b|)|S|ba",
		// repeats: from none, from one, without an end, with one, no time at all
		"a*|W|", "a*|W|aaa", "a*|S|b", "a+|-|", "a+|W|a", "a+|W|aaaa", "a+|S|baab", "a?|W|", "a?|W|a", "a?|S|aa",
		"a{2}|-|a", "a{2}|W|aa", "a{2}|S|aaa", "a{2,}|-|a", "a{2,}|W|aa", "a{2,}|W|aaaaa", "a{2,4}|-|a", "a{2,4}|W|aa", "a{2,4}|W|aaa", "a{2,4}|W|aaaa", "a{2,4}|S|aaaaa", "a{0,2}|W|", "a{0,2}|W|aa", "a{0,2}|S|aaa", "a{1,1}|W|a",
		"a{0}|W|", "a{0}|S|a", "ba{0}b|W|bb", "ba{0}b|-|bab", "(ab){2,3}|W|abab", "(ab){2,3}|S|ababa", "(ab){2,3}|W|ababab", "(ab){2,3}|-|ab",
		// repeats in one another, and of what may be empty
		"(a*)*|W|aaa", "(a*)+b|W|aab", "(a*){2}|W|", "(a?){3}|W|a", "(a?){3}|W|aaa", "(a?){3}|S|aaaa", "(a?){2,}|W|aaaaa", "(a{2}){3}|W|aaaaaa", "(a{2}){3}|-|aaaaa", "(a{2,3}){2}|W|aaaa", "(a{2,3}){2}|W|aaaaaa", "(a{2,3}){2}|-|aaa", "((ab?){2}c){2}|W|abacaabc", "(){255}|W|", "(()*){3,}a|W|a", "(a|b*)*c|W|abbac", "(a*b*)*|W|babba", "(a*b*)*|S|bac", "(a|ab)*|W|abaab", "(aa|aaa)*|W|aaaaa", "(aa|aaa)+|S|a aa", "(aa|aaa)+|-|a",
		// '^' and '$' where they may be met
		"^|W|", "$|W|", "^|S|a", "$|S|a", "^$|W|", "$^|W|", "^$|-|a", "$^|-|a", "^^a$$|W|a", "^a|W|a", "^a|S|ab", "^a|-|ba", "a$|W|a", "a$|S|ba", "a$|-|ab", "^a$|W|a", "^a$|-|aa", "^a$|-|ba",
		"(^a|b)c|S|bc^ac", "(^a|b)c|W|ac", "(^a|b)c|-|xac", "a(b$|c)|W|ab", "a(b$|c)|-|abx", "a(b$|c)|S|acx", "(^|x)a|W|a", "(^|x)a|S|bxa", "(^|x)a|-|ba", "a($|x)|W|a", "a($|x)|-|ab", "a($|x)|S|axb",
		// '^' away from the beginning, '$' ahead of the end
		"a^b|-|ab", "a^|-|a", "a$b|-|ab", "$a|-|a", "a(^|b)c|W|abc", "a(^|b)c|-|ac", "a($|b)c|-|ac", "a($|b)c|W|abc", "a*^b|W|b", "a*^b|-|ab", "a$b*|W|a", "a$b*|-|ab", "a?^b|S|bb", "x*(^a|a^)|W|a", "x*(^a|a^)|-|xa", "((a^)|(b$))c?|W|b", "((a^)|(b$))c?|-|bc",
		// under repeats
		"(^a)*|W|a", "(^a)*|S|aa", "(^a){2}|-|aa", "(^a){0,2}b|W|ab", "(^a){0,2}b|S|aab", "(^|a){2}|W|a", "(^|a){2}|W|aa", "(^|a){2}|W|", "(^|a){2}|S|ba", "(^|a){3}b|S|aaaab", "b(^|a){2}|-|ba", "b(^|a){2}|W|baa", "(^|a)+|W|aaa", "(^){5}a|W|a", "(^){5}a|-|ba", "(^)*a|S|ba", "(a$)+|W|a", "(a$)+|S|aa", "(a$){2}|-|aa", "(a|$){2}|W|a", "(a|$){2}|W|aa", "(a|$){3}|S|ba", "(a|$)*|W|aa", "(a|$){2}b|-|ab", "(^a|b$)+|W|ab", "(^a|b$)+|-|xaby", "(^a|b$){3}|-|ab", "(^a|b$|c){3}|W|acb", "(^$)*|W|", "(^$)+|W|", "(^$)+|-|a", "(a|(^|b$)+){2}|W|ab",
		// newlines: no Set takes one, all else goes on beside it
		"a|S|\na", "a|S|a\n", ".|-|\n", "[^a]|-|\n", ".*|S|a\nb", "^b|-|a\nb", "a$|-|a\nb", "$|S|\n", "a.b|-|a\nb", "(a|b)+|S|\n\nb\n", "a*|S|\n",
	} {
		part := strings.SplitN(c, "|W|", 2)
		whole, search := true, true
		if len(part) == 1 {
			part = strings.SplitN(c, "|S|", 2)
			whole = false
		}
		if len(part) == 1 {
			part = strings.SplitN(c, "|-|", 2)
			search = false
		}
		wantTakes(t, parsed(t, part[0]), part[1], whole, search)
	}
}

// P6.1, P6.2: trees that no pattern has: nothing in places, lists that are empty or have room, bytes of all numbers.
func TestTakesTrees(t *testing.T) {
	a, b := set("a"), set("b")
	wantTakes(t, times(nothing(), 0, 3), "", true, true)
	wantTakes(t, times(nothing(), 0, -1), "a", false, true)
	wantTakes(t, times(nothing(), 1, -1), "", false, false)
	wantTakes(t, seq(a, nothing()), "a", false, false)
	wantTakes(t, seq(star(nothing()), a), "a", true, true)
	wantTakes(t, alt(nothing(), a), "a", true, true)
	wantTakes(t, once(seq(a, b)), "ab", true, true)
	wantTakes(t, times(times(times(empty(), 255, 255), 255, 255), 255, -1), "", true, true)
	wantTakes(t, times(around(a, 30, func(n api.Node) api.Node { return times(n, 255, 255) }), 0, 0), "", true, true)
	wantTakes(t, seq(seq(seq(a, b), seq(a, seq(b, a))), b), "ababab", true, true)
	wantTakes(t, api.Node{Kind: api.NodeSet, Set: a.Set, Subs: []api.Node{}}, "a", true, true)
	wantTakes(t, around(a, 255, maybe), "a", true, true)
	wantTakes(t, around(a, 255, star), "aaa", true, true)
	wantTakes(t, around(a, 255, func(n api.Node) api.Node { return seq(n, empty()) }), "aa", false, true)
	// Sets and counts that are told apart by where one number ends and the next one begins alone
	one, other := set("\x00@D"), set("\x00\x04@")
	wantTakes(t, seq(one, other), "D\x04", true, true)
	wantTakes(t, seq(one, other), "DD", false, false)
	wantTakes(t, seq(times(a, 1, 123), b, times(a, 11, 23)), "ab"+many("a", 11), true, true)
	wantTakes(t, seq(times(a, 1, 123), b, times(a, 11, 23)), "aba", false, false)
	for i := range 256 {
		line := string([]byte{byte(i)})
		wantTakes(t, but(""), line, i != 10, i != 10)
		wantTakes(t, but("x"), line, i != 10 && i != 'x', i != 10 && i != 'x')
		if i != 10 {
			wantTakes(t, set(line), line, true, true)
			wantTakes(t, set(line), string([]byte{byte(i + 1)})+line, false, true)
			wantTakes(t, set(line), string([]byte{byte(i + 1), byte(i + 128)}), false, false)
		}
	}
}

// P6.1, P6.2: trees and lines by chance, against all that the tree takes, tried out.
func TestTakesByChance(t *testing.T) {
	c := chooser{rand.New(rand.NewSource(61))}
	for range 8000 {
		n := c.tree(c.one(1, 2, 3, 4, 5))
		if !slowRight(n) {
			wantWrong(t, n)
			continue
		}
		for _, line := range []string{"", c.line(4), c.line(4), c.line(12), c.line(60)} {
			wantTakes(t, n, line, slowWhole(n, line), slowSearch(n, line))
		}
		if t.Failed() {
			return
		}
	}
}

// P6.3: the chapter's examples.
func TestStepExamples(t *testing.T) {
	a, b := set("a"), set("b")
	wantSteps(t, a, 'a', empty())
	wantSteps(t, a, 'b', nothing())
	wantSteps(t, seq(a, b), 'a', b)
	wantSteps(t, times(a, 2, 5), 'a', times(a, 1, 4))
	wantSteps(t, star(a), 'a', star(a))
	wantSteps(t, seq(maybe(a), a, end()), 'a', alt(seq(a, end()), end()))
	wantStep(t, seq(begin(), a, begin(), b), 'a', true, nothing())
	wantStep(t, seq(begin(), a, b), 'a', true, b)
	wantStep(t, seq(begin(), a, b), 'a', false, nothing())
	wantStep(t, alt(begin(), a), 'a', true, empty())
	wantStep(t, times(alt(begin(), a), 2, 2), 'a', true, maybe(a))
	wantStep(t, times(alt(begin(), a), 2, 2), 'a', false, a)
	wantStep(t, parsed(t, "(a?){200}"), 'a', true, times(maybe(a), 0, 199))
}

// P6.3: each kind without Subs, behind each byte.
func TestStepLeaves(t *testing.T) {
	for i := range 256 {
		b := byte(i)
		for _, n := range []api.Node{empty(), begin(), end(), nothing()} {
			wantSteps(t, n, b, nothing())
		}
		for _, n := range []api.Node{but(""), but("a\xff"), set("\x00?@\x7f\x80\xbf\xc0\xff")} {
			want := nothing()
			if slowHas(n.Set, b) {
				want = empty()
			}
			wantSteps(t, n, b, want)
		}
	}
}

// P6.3: rows: what stands up to the first Sub that isn't passed, each time with what stands behind it, late.
func TestStepSeq(t *testing.T) {
	a, b, c, d := set("a"), set("b"), set("c"), set("d")
	wantSteps(t, seq(a, b, c), 'a', seq(b, c))
	wantSteps(t, seq(a, b, c), 'b', nothing())
	wantSteps(t, seq(empty(), a, b), 'a', b)
	wantSteps(t, seq(a, empty()), 'a', empty())
	wantSteps(t, seq(seq(a, b), c), 'a', seq(b, c))
	wantSteps(t, seq(maybe(a), b, c), 'b', c)
	wantSteps(t, seq(maybe(a), b, c), 'a', seq(b, c))
	wantSteps(t, seq(star(a), star(b), star(c), d), 'b', seq(star(b), star(c), d))
	wantSteps(t, seq(star(a), star(a), a), 'a', alt(seq(star(a), star(a), a), seq(star(a), a), empty()))
	wantSteps(t, seq(maybe(a), a, a), 'a', alt(seq(a, a), a)) // the third isn't come to
	wantSteps(t, seq(a, a, maybe(a)), 'a', seq(a, maybe(a)))
	wantSteps(t, seq(maybe(a), maybe(a)), 'a', alt(maybe(a), empty()))
	wantSteps(t, seq(maybe(a), end(), a), 'a', seq(end(), a)) // the place isn't the end
	wantSteps(t, seq(end(), a), 'a', nothing())
	wantSteps(t, seq(a, end(), end()), 'a', end())
	wantSteps(t, seq(seq(a, end()), seq(end(), b)), 'a', seq(end(), b))
	wantSteps(t, seq(alt(seq(a, b), seq(a, c)), d), 'a', seq(set("bc"), d))
	wantSteps(t, seq(alt(seq(a, b), seq(a, c, d)), d), 'a', seq(alt(b, seq(c, d)), d))
	wantSteps(t, seq(a, nothing()), 'a', nothing())
	wantSteps(t, seq(maybe(nothing()), a), 'a', empty())
	wantStep(t, seq(begin(), maybe(a), begin(), a, b), 'a', true, b) // of two rows the first has a '^' too late
	wantStep(t, seq(begin(), maybe(a), begin(), a, b), 'a', false, nothing())
	wantStep(t, seq(maybe(a), begin()), 'a', true, nothing())
	wantStep(t, seq(alt(begin(), b), a, alt(begin(), b)), 'a', true, b)
	wantStep(t, seq(alt(begin(), b), a, alt(begin(), b)), 'a', false, nothing())
	wantStep(t, seq(alt(begin(), b), a, alt(begin(), b)), 'b', false, seq(a, b))
}

// P6.3: a tree late has nothing for each '^', at any depth.
func TestStepLate(t *testing.T) {
	a, b := set("a"), set("b")
	wantSteps(t, seq(a, begin()), 'a', nothing())
	wantSteps(t, seq(a, maybe(begin())), 'a', empty())
	wantSteps(t, seq(a, star(seq(b, begin()))), 'a', empty())
	wantSteps(t, seq(a, alt(begin(), seq(b, alt(begin(), end())))), 'a', seq(b, end()))
	wantSteps(t, seq(a, times(alt(begin(), b), 3, 5)), 'a', times(b, 3, 5))
	wantSteps(t, seq(a, around(alt(begin(), b), 200, func(n api.Node) api.Node { return seq(a, n) })), 'a', seq(append(some(a, 200), b)...))
	wantSteps(t, star(alt(seq(begin(), b), a)), 'a', star(a))
	wantStep(t, star(alt(seq(begin(), b), a)), 'b', true, star(a))
	wantStep(t, star(alt(seq(begin(), b), a)), 'b', false, nothing())
}

// P6.3: alternatives.
func TestStepAlt(t *testing.T) {
	a, b, c := set("a"), set("b"), set("c")
	wantSteps(t, alt(a, b), 'b', empty())
	wantSteps(t, alt(a, b), 'c', nothing())
	wantSteps(t, alt(seq(a, b), seq(a, c), seq(b, a)), 'a', set("bc"))
	wantSteps(t, alt(seq(a, b, b), a, seq(a, c)), 'a', alt(seq(b, b), empty(), c))
	wantSteps(t, alt(seq(a, b, c), alt(a, seq(a, b, c))), 'a', alt(seq(b, c), empty()))
	wantSteps(t, alt(seq(a, c), seq(a, end()), seq(a, b)), 'a', alt(set("bc"), end()))
	wantSteps(t, alt(empty(), begin(), end(), nothing()), 'a', nothing())
	wantStep(t, alt(seq(begin(), a, b), seq(a, c, c)), 'a', true, alt(b, seq(c, c)))
	wantStep(t, alt(seq(begin(), a, b), seq(a, c, c)), 'a', false, seq(c, c))
}

// P6.3: repeats: with Max 0, without an end, with Min 0, of a Sub that is passed there and of one that isn't.
func TestStepTimes(t *testing.T) {
	a, b := set("a"), set("b")
	wantSteps(t, times(a, 0, 0), 'a', nothing())
	wantSteps(t, times(empty(), 0, 0), 'a', nothing())
	wantSteps(t, seq(times(a, 0, 0), a, b), 'a', b)
	wantSteps(t, times(around(a, 30, func(n api.Node) api.Node { return times(n, 255, 255) }), 0, 0), 'a', nothing())
	wantSteps(t, seq(b, times(around(a, 30, func(n api.Node) api.Node { return times(n, 255, 255) }), 0, 0), a), 'b', a)
	wantSteps(t, times(ahead(a, 100000), 0, 0), 'a', nothing())
	wantSteps(t, once(a), 'a', empty())
	wantSteps(t, maybe(a), 'a', empty())
	wantSteps(t, maybe(a), 'b', nothing())
	wantSteps(t, times(a, 0, 2), 'a', maybe(a))
	wantSteps(t, times(a, 0, 255), 'a', times(a, 0, 254))
	wantSteps(t, times(a, 255, 255), 'a', times(a, 254, 254))
	wantSteps(t, times(a, 1, 2), 'a', maybe(a))
	wantSteps(t, times(a, 2, 2), 'a', a)
	wantSteps(t, times(a, 2, 3), 'a', times(a, 1, 2))
	wantSteps(t, times(a, 1, -1), 'a', star(a))
	wantSteps(t, times(a, 2, -1), 'a', times(a, 1, -1))
	wantSteps(t, times(a, 255, -1), 'a', times(a, 254, -1))
	wantSteps(t, times(seq(a, b), 0, -1), 'a', seq(b, star(seq(a, b))))
	wantSteps(t, times(seq(a, b), 2, 2), 'a', seq(b, a, b))
	wantSteps(t, times(maybe(a), 3, 5), 'a', times(maybe(a), 0, 4))
	wantSteps(t, times(maybe(a), 3, -1), 'a', times(maybe(a), 0, -1))
	wantSteps(t, times(star(a), 2, 5), 'a', seq(star(a), star(a)))
	wantSteps(t, times(seq(maybe(a), maybe(b)), 2, 2), 'a', seq(maybe(b), maybe(seq(maybe(a), maybe(b)))))
	wantSteps(t, times(alt(end(), a), 2, 2), 'a', alt(end(), a)) // the place isn't the end: that isn't passed
	wantSteps(t, times(alt(end(), a), 2, 2), 'b', nothing())
	wantStep(t, times(alt(begin(), a), 3, 7), 'a', true, times(a, 0, 6))
	wantStep(t, times(alt(begin(), a), 3, 7), 'a', false, times(a, 2, 6))
	wantStep(t, times(alt(begin(), a), 3, -1), 'a', true, star(a))
	wantStep(t, times(alt(begin(), a), 3, -1), 'a', false, times(a, 2, -1))
	wantStep(t, times(seq(alt(begin(), b), a), 2, 2), 'a', true, seq(b, a))
	wantStep(t, times(seq(alt(begin(), b), a), 2, 2), 'a', false, nothing())
	wantStep(t, times(alt(begin(), seq(end(), a), a), 2, 3), 'a', true, times(alt(seq(end(), a), a), 0, 2))
	wantStep(t, times(seq(begin(), maybe(a)), 2, 2), 'a', true, empty()) // 0 to 1 times nothing
	wantStep(t, times(seq(begin(), a), 2, 2), 'a', true, nothing())
	wantSteps(t, around(a, 255, once), 'a', empty())
	wantSteps(t, around(a, 255, maybe), 'a', empty())
}

// P6.3: no Set has the newline.
func TestStepNewline(t *testing.T) {
	for _, n := range []api.Node{set("a"), but(""), star(but("")), seq(begin(), maybe(but("a"))), alt(end(), but(""))} {
		wantSteps(t, n, '\n', nothing())
	}
}

// tall is a tree of some depth above 3 whose rest behind 'a' is one deeper.
func tall(depth int) api.Node {
	return times(around(seq(set("a"), set("b")), depth-3, maybe), 0, 2)
}

// P6.3: a rest that is deeper than 256 is refused, one of just that depth isn't.
func TestStepDeep(t *testing.T) {
	a, b := set("a"), set("b")
	inner := around(seq(a, b), 252, maybe)
	wantSteps(t, tall(255), 'a', seq(b, maybe(inner)))
	wantNoStep(t, tall(256), 'a', true, api.ErrDeep)
	wantNoStep(t, tall(256), 'a', false, api.ErrDeep)
	wantSteps(t, tall(256), 'b', nothing())
	wantNoStep(t, seq(begin(), tall(255), a), 'a', true, api.ErrDeep) // an Alt around it
	wantStep(t, seq(begin(), tall(255), a), 'a', false, nothing())
	wantStep(t, seq(begin(), tall(255), b), 'a', true, seq(b, maybe(inner), b))
	wantNoStep(t, alt(tall(255), seq(a, b, b)), 'a', true, api.ErrDeep)
	wantStep(t, alt(tall(254), seq(a, b, b)), 'a', true, alt(seq(b, maybe(around(seq(a, b), 251, maybe))), seq(b, b)))
	wantSteps(t, alt(tall(255), b), 'a', seq(b, maybe(inner)))
	wantSteps(t, seq(tall(255), nothing()), 'a', nothing())
	wantWrong(t, tall(257))
}

// P6.3: a rest of more than MaxPlaces places is refused, one of just that many isn't.
func TestStepBig(t *testing.T) {
	a, b, c := set("a"), set("b"), set("c")
	// behind 'a' Alt of the one row from its second Sub on and of what stands behind that
	twice := func(n int) api.Node { return ahead(b, n, maybe(a), a) }
	wantSteps(t, twice(1021), 'a', alt(ahead(b, 1021, a), ahead(b, 1021))) // 2046 places and one
	wantNoStep(t, twice(1022), 'a', true, api.ErrBig)
	wantNoStep(t, twice(1022), 'a', false, api.ErrBig)
	odd := func(n int) api.Node { return ahead(b, n, alt(seq(a, c), empty()), a) }
	wantSteps(t, odd(1021), 'a', alt(ahead(b, 1021, c, a), ahead(b, 1021))) // 2047 places and one
	wantNoStep(t, odd(1022), 'a', true, api.ErrBig)
	wantNoStep(t, seq(some(maybe(a), 1023)...), 'a', true, api.ErrBig)
	wantNoStep(t, seq(some(times(a, 0, 9), 100)...), 'a', true, api.ErrBig)
	wantNoStep(t, seq(some(times(a, 0, 4), 400)...), 'a', false, api.ErrBig)
	wantNoStep(t, seq(maybe(seq(some(maybe(a), 500)...)), seq(some(maybe(a), 500)...)), 'a', true, api.ErrBig)
	// few nodes, but many places
	wantNoStep(t, seq(maybe(a), maybe(a), maybe(a), times(b, 255, 255), times(b, 255, 255), times(b, 255, 255), times(b, 255, 255)), 'a', true, api.ErrBig)
	wantSteps(t, seq(some(maybe(a), 1023)...), 'b', nothing())
	// more nodes than places
	rest := seq(some(maybe(seq(a, b)), 682)...)
	wantSteps(t, ahead(maybe(seq(a, b)), 682, c), 'c', rest)
}

// P6.3: a rest that is refused isn't laid: this one has a million nodes.
func TestStepBigIsNotLaid(t *testing.T) {
	n := seq(some(maybe(set("a")), 1023)...)
	if got := testing.AllocsPerRun(1, func() { deriv.Step(n, 'a', true) }); got > 100000 {
		t.Errorf("%v pieces of memory for a rest that is refused", got)
	}
}

// P6.3: what is too deep or too great on the way to the plainest tree is not refused.
func TestStepPlainFits(t *testing.T) {
	a, b := set("a"), set("b")
	great := seq(some(times(a, 0, 9), 100)...)
	wantNoStep(t, great, 'a', true, api.ErrBig)
	wantSteps(t, seq(great, begin()), 'a', nothing())
	wantSteps(t, seq(great, nothing()), 'a', nothing())
	wantSteps(t, alt(seq(great, begin()), seq(a, b)), 'a', b)
	wantSteps(t, maybe(seq(great, begin())), 'a', nothing())
	wantSteps(t, around(seq(great, begin()), 250, func(n api.Node) api.Node { return alt(n, a) }), 'a', empty())
	x := ahead(b, 900, maybe(a), a)
	wantSteps(t, alt(x, x), 'a', alt(ahead(b, 900, a), ahead(b, 900)))
	wantSteps(t, around(a, 255, once), 'a', empty())
	wantSteps(t, around(seq(a, b), 254, once), 'a', b)
	wantSteps(t, around(a, 254, func(n api.Node) api.Node { return seq(maybe(b), n) }), 'a', empty())
	wantSteps(t, around(a, 254, func(n api.Node) api.Node { return alt(seq(b, a), n) }), 'b', a)
	wantSteps(t, around(a, 120, func(n api.Node) api.Node { return seq(maybe(a), alt(n, nothing())) }), 'b', nothing())
	wantSteps(t, seq(a, around(b, 254, func(n api.Node) api.Node { return seq(n, empty()) })), 'a', b)
}

// P6.3: of several errors the first.
func TestStepErrorsInOrder(t *testing.T) {
	a := set("a")
	both := ahead(maybe(a), 600, tall(255))
	if rest := slowPlain(slowRest(both, 'a', true)); slowDepth(rest) <= 256 || slowFits(rest) {
		t.Fatal("the rest is not both too deep and too great")
	}
	wantNoStep(t, both, 'a', true, api.ErrDeep)
	wantNoStep(t, ahead(maybe(a), 600, tall(254)), 'a', true, api.ErrBig)
	wantNoStep(t, ahead(maybe(a), 600, tall(256)), 'a', true, api.ErrTree)
	wantNoStep(t, ahead(maybe(a), 1500, tall(255)), 'a', true, api.ErrTree)
}

// P6.3: trees by chance, against the chapter's words done step by step.
func TestStepByChance(t *testing.T) {
	c := chooser{rand.New(rand.NewSource(63))}
	for range 12000 {
		n := c.tree(c.one(1, 2, 3, 4, 5))
		for _, begin := range []bool{true, false} {
			b := "aabx\n"[c.Intn(5)]
			want, e := slowStep(n, b, begin)
			if got, f := deriv.Step(n, b, begin); !same(got, want) || e != f {
				t.Fatalf("Step(%s, %q, %v) = %s, %d, want %s, %d", tell(n), b, begin, tell(got), f, tell(want), e)
			}
		}
	}
}

// P6.3: great trees by chance, near the bounds of depth and of places.
func TestStepGreatByChance(t *testing.T) {
	c := chooser{rand.New(rand.NewSource(64))}
	a, b := set("a"), set("b")
	lays := []func(api.Node) api.Node{
		maybe, maybe, maybe, once,
		func(n api.Node) api.Node { return seq(n, c.leaf()) },
		func(n api.Node) api.Node { return seq(maybe(b), n) },
		func(n api.Node) api.Node { return seq(maybe(a), n) },
		func(n api.Node) api.Node { return seq(n, maybe(a)) },
		func(n api.Node) api.Node { return seq(n, empty()) },
		func(n api.Node) api.Node { return alt(n, c.tree(2)) },
		func(n api.Node) api.Node { return alt(n, seq(a, b)) },
	}
	met := map[api.Errno]int{}
	for range 60 {
		n := seq(c.tree(2), a, b)
		one, other := lays[c.Intn(len(lays))], lays[c.Intn(len(lays))]
		for range c.one(3, 10, 100, 249, 250, 250, 251, 251, 252) {
			if c.Intn(4) > 0 {
				n = one(n)
			} else {
				n = other(n)
			}
		}
		switch c.Intn(4) {
		case 0:
			n = times(n, c.Intn(2), c.one(-1, 1, 2, 3))
		case 1:
			n = ahead(maybe(a), c.Intn(30), n, n)
		case 2:
			n = times(around(n, 255-slowDepth(n), maybe), 0, 2)
		}
		want, e := slowStep(n, 'a', true)
		if got, f := deriv.Step(n, 'a', true); !same(got, want) || e != f {
			t.Fatalf("Step(%.2000s) = %.2000s, %d, want %.2000s, %d", tell(n), tell(got), f, tell(want), e)
		}
		met[e]++
	}
	for _, e := range []api.Errno{api.OK, api.ErrTree, api.ErrDeep, api.ErrBig} {
		if met[e] < 2 {
			t.Errorf("%d is met %d times alone", e, met[e])
		}
	}
}

// P6.4: a tree takes a byte and a line behind it just if its rest takes the whole of the line; so it goes on, byte by byte, to the line's end.
func TestStepThenWhole(t *testing.T) {
	c := chooser{rand.New(rand.NewSource(65))}
	for range 6000 {
		n := c.tree(c.one(1, 2, 3, 4))
		if !slowRight(n) {
			continue
		}
		line := c.line(10)
		whole, _ := deriv.Whole(n, line)
		rest, e := n, api.OK
		for i := range len(line) {
			if rest, e = deriv.Step(rest, line[i], i == 0); e != api.OK {
				break // as it may be
			}
			if is, e := deriv.Whole(rest, line[i+1:]); is != whole || e != api.OK {
				t.Fatalf("Whole(%s, %q) = %v, but behind %d bytes Whole(%s) = %v, %d", tell(n), line, whole, i+1, tell(rest), is, e)
			}
		}
	}
}

// P6.4: Search is Whole between any bytes but newlines; of alternatives each by itself; no line is taken that has fewer or more bytes than Spread tells.
func TestWhatFollows(t *testing.T) {
	c := chooser{rand.New(rand.NewSource(66))}
	between := func(n api.Node) api.Node { return seq(star(but("")), n, star(but(""))) }
	for range 6000 {
		n, m := c.tree(c.one(1, 2, 3, 4)), c.tree(c.one(1, 2, 3))
		if !slowRight(between(n)) || !slowRight(alt(n, m)) {
			continue
		}
		line := strings.ReplaceAll(c.line(20), "\n", "")
		whole, _ := deriv.Whole(n, line)
		search, _ := deriv.Search(n, line)
		if is, e := deriv.Whole(between(n), line); is != search || e != api.OK {
			t.Fatalf("Search(%s, %q) = %v, Whole between any bytes %v, %d", tell(n), line, search, is, e)
		}
		whole2, _ := deriv.Whole(m, line)
		search2, _ := deriv.Search(m, line)
		wantTakes(t, alt(n, m), line, whole || whole2, search || search2)
		least, most, _ := tree.Spread(n)
		if whole && (least < 0 || len(line) < least || most >= 0 && len(line) > most) {
			t.Fatalf("%s takes %q, its spread is %d, %d", tell(n), line, least, most)
		}
		if t.Failed() {
			return
		}
	}
}

// P6.1 to P6.4: all lines of at most five bytes out of three: what is taken of them, and that Step's tree takes just what may stand behind the byte.
func TestAllShortLines(t *testing.T) {
	lines := []string{""}
	for i := 0; len(lines[i]) < 5; i++ {
		for _, b := range "ab\n" {
			lines = append(lines, lines[i]+string(b))
		}
	}
	for _, p := range []string{"", "^", "$", "a", ".", "a*", "(a|b)*a", "(ab|a)(b|)", "^a|b$", "(^|b)a", "a($|b)", "(^a|b){2}", "(a|$){2}", "(^|a|$){3}", "(a?b?){2}", "(a{2}|b){1,2}", "a{0}b", "(a|^b)*$", "((^a)*b)+", "(a*b)*", "^(a|ba)*$", "(()|a){2,}b", "[^a]^|b"} {
		n := parsed(t, p)
		for _, line := range lines {
			wantTakes(t, n, line, slowWhole(n, line), slowSearch(n, line))
			for _, b := range []byte("ab\n") {
				rest, e := deriv.Step(n, b, true)
				if e != api.OK || slowWhole(n, string(b)+line) != slowWhole(rest, line) {
					t.Fatalf("Step(%q, %q) = %s, %d: not what may stand ahead of %q", p, b, tell(rest), e, line)
				}
			}
		}
	}
}

// soon fails if something takes longer than it may, by far.
func soon(t *testing.T, what string, do func()) {
	t.Helper()
	done := make(chan int)
	go func() {
		do()
		close(done)
	}()
	select {
	case <-done:
	case <-time.After(20 * time.Second):
		t.Fatalf("%s doesn't end soon", what)
	}
}

// P6.4: Whole and Search end soon: trees of many places, of many rests, of great rests, and long lines.
func TestSoon(t *testing.T) {
	a, b := set("a"), set("b")
	var unlike []api.Node
	for i := range 400 {
		unlike = append(unlike, seq(set(string(rune('a'+i%26))), set(string(rune('A'+i/26)))))
	}
	for _, c := range []struct {
		what          string
		n             api.Node
		line          string
		whole, search bool
	}{
		{"a? 1023 times", seq(some(maybe(a), 1023)...), many("a", 4096), false, true},
		{"a? 600 times, and a", ahead(a, 600, some(maybe(a), 600)...), many("a", 1200), true, true},
		{"a? 600 times, and b", ahead(b, 600, some(maybe(a), 600)...), many("a", 4096), false, false},
		{"a* 600 times, and b", seq(append(some(star(a), 600), b)...), many("a", 4096), false, false},
		{"a{0,9} 200 times, and b", seq(append(some(times(a, 0, 9), 200), b)...), many("a", 4096), false, false},
		{"an a, and 1000 bytes", seq(star(but("")), a, times(times(but(""), 200, 200), 5, 5)), many("ba", 2048), true, true},
		{"an a, and 1000 bytes, and none", seq(star(but("")), a, times(times(but(""), 200, 200), 5, 5), set("x")), many("ab", 2048), false, false},
		{"rows of rows", times(times(times(alt(a, seq(a, a), b), 1, 5), 1, 5), 1, 7), many("ab", 2048), false, true},
		{"repeats of what may be empty", times(times(times(maybe(a), 0, 9), 0, 9), 0, 11), many("a", 2000), false, true},
		{"repeats of what may be empty, and b", seq(times(times(times(maybe(a), 0, 9), 0, 9), 0, 9), b), many("a", 4096), false, false},
		{"45 times 45", times(times(a, 45, 45), 45, 45), many("a", 2025), true, true},
		{"45 times 45, one too many", times(times(a, 45, 45), 45, 45), many("a", 2024) + "b" + many("a", 2024), false, false},
		{"stars in one another", around(a, 127, func(n api.Node) api.Node { return star(alt(n, b)) }), many("ab", 50000) + "x", false, true},
		{"400 alternatives", alt(unlike...), many("aa", 2048) + "zZ", false, false},
		{"a long line", parsed(t, "(a|aa)*b"), many("a", 1<<20), false, false},
		{"a long line that is taken", parsed(t, "^(a|aa)*b?$"), many("a", 1<<20), true, true},
		{"a row in rows", around(ahead(a, 1500), 250, func(n api.Node) api.Node { return seq(n, b) }), many("a", 1500) + many("b", 250), true, true},
		{"empties", around(seq(some(empty(), 1<<18)...), 50, func(n api.Node) api.Node { return seq(n, empty()) }), "a", false, true},
		{"empty times in one another", around(empty(), 255, func(n api.Node) api.Node { return times(n, 255, 255) }), "", true, true},
	} {
		if !tree.Right(c.n) {
			t.Errorf("%s: no right tree", c.what)
			continue
		}
		soon(t, c.what, func() { wantTakes(t, c.n, c.line, c.whole, c.search) })
		soon(t, "Step of "+c.what, func() { deriv.Step(c.n, 'a', true) })
	}
}

// P6.1, P6.2, P6.3: what is no right tree: each kind, at each depth, too deep, of too many places.
func TestWrong(t *testing.T) {
	a := set("a")
	room := func(n api.Node) api.Node { n.Subs = []api.Node{a}; return n }
	least := func(n api.Node) api.Node { n.Min = 1; return n }
	most := func(n api.Node) api.Node { n.Max = -1; return n }
	bytes := func(n api.Node) api.Node { n.Set = a.Set; return n }
	wrong := []api.Node{{}, {Kind: 8}, {Kind: -1}, {Kind: 1 << 40}, set("\n"), set("a\n"), seq(), alt(), seq(a), alt(a), {Kind: api.NodeTimes}, {Kind: api.NodeTimes, Subs: []api.Node{a, a}}, times(a, 2, 1), times(a, -1, 1), times(a, 0, -2), times(a, 0, 256), times(a, 256, 256), times(a, 256, -1), bytes(seq(a, a)), bytes(alt(a, a)), bytes(times(a, 0, 1))}
	for _, n := range []api.Node{empty(), begin(), end(), a} {
		wrong = append(wrong, room(n), least(n), most(n))
	}
	for _, n := range []api.Node{empty(), begin(), end()} {
		wrong = append(wrong, bytes(n))
	}
	for _, n := range []api.Node{seq(a, a), alt(a, a)} {
		wrong = append(wrong, least(n), most(n))
	}
	for _, n := range wrong {
		wantWrong(t, n)
		wantWrong(t, seq(a, n))
		wantWrong(t, alt(n, a))
		wantWrong(t, times(n, 0, 0))
		wantWrong(t, seq(a, alt(a, maybe(seq(n, a)))))
	}
	wantWrong(t, around(a, 256, maybe))
	wantWrong(t, around(a, 1<<16, maybe))
	wantWrong(t, around(a, 1<<16, func(n api.Node) api.Node { return seq(n, a) }))
	wantWrong(t, times(times(a, 255, 255), 9, 9))
	wantWrong(t, ahead(a, 2048))
	wantTakes(t, ahead(a, 2047), many("a", 2047), true, true)
	c := chooser{rand.New(rand.NewSource(67))}
	for range 4000 {
		if n := c.spoil(c.tree(c.one(1, 2, 3))); !slowRight(n) {
			wantWrong(t, n)
		}
	}
}

// lists is all lists of Subs of a tree, at every depth, with the room behind each.
func lists(t api.Node) [][]api.Node {
	var all [][]api.Node
	if cap(t.Subs) > 0 {
		all = append(all, t.Subs[:cap(t.Subs)])
	}
	for _, sub := range t.Subs {
		all = append(all, lists(sub)...)
	}
	return all
}

// roomy is a tree whose lists all have room behind them, the empty ones too, with nodes in it that aren't its own.
func roomy(t api.Node) api.Node {
	subs := make([]api.Node, 0, len(t.Subs)+2)
	for _, sub := range t.Subs {
		subs = append(subs, roomy(sub))
	}
	room := append(subs, api.Node{Kind: 77, Min: 7}, api.Node{Kind: 78, Max: 8})
	t.Subs = room[:len(t.Subs)]
	return t
}

// deepCopy is a tree in other memory, the room behind its lists too.
func deepCopy(t api.Node) api.Node {
	n := len(t.Subs)
	var room []api.Node
	for _, sub := range t.Subs[:cap(t.Subs)] {
		room = append(room, deepCopy(sub))
	}
	t.Subs = room[:n]
	return t
}

// sameRoom tells whether two trees are the same, the room behind their lists too.
func sameRoom(a, b api.Node) bool {
	return a.Kind == b.Kind && a.Set == b.Set && a.Min == b.Min && a.Max == b.Max && len(a.Subs) == len(b.Subs) && slices.EqualFunc(a.Subs[:cap(a.Subs)], b.Subs[:len(b.Subs)+cap(a.Subs)-len(a.Subs)], sameRoom)
}

// wantNew asks all calls about a tree, and tells by writing over what was answered whether it shares memory with anything.
func wantNew(t *testing.T, n api.Node, b byte) {
	t.Helper()
	n = roomy(n)
	before := deepCopy(n)
	deriv.Whole(n, "ab")
	deriv.Search(n, "xab")
	first, _ := deriv.Step(n, b, true)
	if !sameRoom(n, before) {
		t.Fatalf("%s is changed", tell(before))
	}
	second, _ := deriv.Step(n, b, true)
	want, _ := slowStep(before, b, true)
	for _, list := range lists(first) {
		for i := range list {
			if list[i].Kind == 99 {
				t.Fatalf("two lists of Step(%s, %q) share memory", tell(before), b)
			}
			list[i] = api.Node{Kind: 99}
		}
	}
	if !sameRoom(n, before) {
		t.Fatalf("Step(%s, %q) shares memory with what was handed in", tell(before), b)
	}
	if !same(second, want) {
		t.Fatalf("two answers of Step(%s, %q) share memory", tell(before), b)
	}
	for _, list := range lists(n) {
		clear(list)
	}
	if !same(second, want) {
		t.Fatalf("Step(%s, %q) hangs on what was handed in", tell(before), b)
	}
}

// P6.5: all that is answered is new memory, and what is handed in stays as it is.
func TestMemory(t *testing.T) {
	a, b := set("a"), set("b")
	x := times(seq(a, maybe(b)), 2, 3)
	for _, n := range []api.Node{empty(), a, begin(), end(), nothing(), seq(a, b), seq(a, b, end()), alt(a, begin()), seq(a, seq(a, alt(b, end()))), times(a, 2, 2), star(a), times(x, 2, 5), seq(maybe(a), maybe(x), x), alt(seq(a, x), seq(a, x)), alt(seq(a, x), seq(a, x, b)), seq(a, x, x, star(x))} {
		wantNew(t, n, 'a')
		wantNew(t, n, 'b')
	}
	c := chooser{rand.New(rand.NewSource(68))}
	for range 2000 {
		if n := c.tree(c.one(2, 3, 4)); slowRight(n) {
			wantNew(t, n, "ab"[c.Intn(2)])
		}
	}
}

// P6.5 and the rules that hold everywhere: the same answers whoever asks, several at once.
func TestManyAtOnce(t *testing.T) {
	n := parsed(t, "(^a|(ab?|b){1,4}c*)*(a|b$)?")
	line := "aababccbab"
	rest, _ := slowStep(n, 'a', true)
	var wait sync.WaitGroup
	for range 8 {
		wait.Go(func() {
			for range 50 {
				whole, e := deriv.Whole(n, line)
				search, f := deriv.Search(n, line+"x")
				got, g := deriv.Step(n, 'a', true)
				if whole != slowWhole(n, line) || search != slowSearch(n, line+"x") || !same(got, rest) || e+f+g != 0 {
					t.Error("the answers hang on who asks")
					return
				}
			}
		})
	}
	wait.Wait()
}
