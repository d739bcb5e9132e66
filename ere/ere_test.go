package ere

import (
	"fmt"
	"math/rand"
	"reflect"
	"slices"
	"strings"
	"sync"
	"testing"
	"time"

	"heron/api"
	"heron/octets"
)

func setNode(ask func(b int) bool) api.Node {
	n := api.Node{Kind: api.NodeSet}
	for b := range 256 {
		if ask(b) {
			n.Set[b/64] |= 1 << (b % 64)
		}
	}
	return n
}

// set is NodeSet of some bytes.
func set(bytes string) api.Node {
	return setNode(func(b int) bool { return strings.IndexByte(bytes, byte(b)) >= 0 })
}

// but is NodeSet of all bytes but some and the newline.
func but(bytes string) api.Node {
	return setNode(func(b int) bool { return b != 10 && strings.IndexByte(bytes, byte(b)) < 0 })
}

func empty() api.Node                { return api.Node{Kind: api.NodeEmpty} }
func begin() api.Node                { return api.Node{Kind: api.NodeBegin} }
func end() api.Node                  { return api.Node{Kind: api.NodeEnd} }
func seq(subs ...api.Node) api.Node  { return api.Node{Kind: api.NodeSeq, Subs: subs} }
func alt(subs ...api.Node) api.Node  { return api.Node{Kind: api.NodeAlt, Subs: subs} }
func many(text string, n int) string { return strings.Repeat(text, n) }

func times(sub api.Node, least, most int) api.Node {
	return api.Node{Kind: api.NodeTimes, Subs: []api.Node{sub}, Min: least, Max: most}
}

// same tells whether two nodes are the same, an empty list being the same as none.
func same(a, b api.Node) bool {
	return a.Kind == b.Kind && a.Set == b.Set && a.Min == b.Min && a.Max == b.Max && slices.EqualFunc(a.Subs, b.Subs, same)
}

// tell is a node as text.
func tell(t api.Node) string {
	subs := ""
	for _, sub := range t.Subs {
		subs += " " + tell(sub)
	}
	switch t.Kind {
	case api.NodeSet:
		bytes := ""
		for b := range 256 {
			if octets.Has(t.Set, byte(b)) {
				bytes += string([]byte{byte(b)})
			}
		}
		return fmt.Sprintf("S(%.40q)", bytes)
	case api.NodeTimes:
		return fmt.Sprintf("Times(%s, %d, %d)", subs, t.Min, t.Max)
	}
	return fmt.Sprintf("%d[%s]", t.Kind, subs)
}

func wantTree(t *testing.T, p string, want api.Node) {
	t.Helper()
	if got, at, e := Parse(p); !same(got, want) || at != 0 || e != api.OK {
		t.Errorf("Parse(%.60q) = %.200s, %d, %d, want %.200s, 0, 0", p, tell(got), at, e, tell(want))
	}
}

func wantFault(t *testing.T, p string, e api.Errno, at int) {
	t.Helper()
	if got, gotAt, gotE := Parse(p); !same(got, api.Node{}) || gotAt != at || gotE != e {
		t.Errorf("Parse(%.60q) = %.200s, %d, %d, want the zero node, %d, %d", p, tell(got), gotAt, gotE, at, e)
	}
}

func wantPlaces(t *testing.T, n api.Node, want int) {
	t.Helper()
	if got := Places(n); got != want {
		t.Errorf("Places(%.200s) = %d, want %d", tell(n), got, want)
	}
}

// wantSlow holds Parse against the chapter's words read in another way.
func wantSlow(t *testing.T, p string) {
	t.Helper()
	got, at, e := Parse(p)
	want, wantAt, wantE := slowParse(p)
	if !same(got, want) || at != wantAt || e != wantE {
		t.Fatalf("Parse(%q) = %s, %d, %d, want %s, %d, %d", p, tell(got), at, e, tell(want), wantAt, wantE)
	}
}

type example struct {
	p    string
	want api.Node
}

// examples is the chapter's examples of trees.
func examples() []example {
	a, b, c := set("a"), set("b"), set("c")
	return []example{
		{"", empty()}, {"a", a}, {"ab", seq(a, b)}, {"a|", alt(a, empty())}, {"()", empty()}, {"(a)", a}, {"a(bc)", seq(a, seq(b, c))}, {"^a$", seq(begin(), a, end())}, {"a]}", seq(a, set("]"), set("}"))},
		{"a*", times(a, 0, -1)}, {"a{2,}", times(a, 2, -1)}, {"a{0}", times(a, 0, 0)}, {"(a*)*", times(times(a, 0, -1), 0, -1)}, {"\\.", set(".")}, {"(^)*", times(begin(), 0, -1)},
		{"[]a]", set("]a")}, {"[^]]", but("]")}, {"[a-c-e]", set("abc-e")}, {"[a-]", set("a-")}, {"[+--]", set("+,-")}, {"[[:digit:]x]", set("0123456789x")}, {"[\\]", set("\\")}, {"[a[]", set("a[")}, {"[.*]", set(".*")},
		{many("(", 64) + many(")", 64), empty()}, {"(){255}", times(empty(), 255, 255)}, {"a{0,3}", times(a, 0, 3)}, {"a{1,3}", times(a, 1, 3)}, {"a|b", alt(a, b)}, {"((a{45}){45})", times(times(a, 45, 45), 45, 45)},
	}
}

// P4.1: the chapter's examples of trees.
func TestParseExamples(t *testing.T) {
	for _, x := range examples() {
		wantTree(t, x.p, x.want)
	}
}

// P4.1: the chapter's examples of faults, each with its place.
func TestParseFaultExamples(t *testing.T) {
	for _, x := range []struct {
		p  string
		e  api.Errno
		at int
	}{
		{"*", api.ErrRepeat, 0}, {"a**", api.ErrRepeat, 2}, {"^*", api.ErrRepeat, 1}, {"(*)", api.ErrRepeat, 1}, {"a|+", api.ErrRepeat, 2}, {"{1}", api.ErrRepeat, 0},
		{"a{", api.ErrCount, 1}, {"a{}", api.ErrCount, 1}, {"a{,2}", api.ErrCount, 1}, {"a{2,1}", api.ErrCount, 1}, {"a{256}", api.ErrCount, 1}, {"a{0001}", api.ErrCount, 1}, {"a{1", api.ErrCount, 1},
		{"\\", api.ErrEscape, 0}, {"a\\n", api.ErrEscape, 1},
		{")", api.ErrParen, 0}, {"a)", api.ErrParen, 1}, {"((a)", api.ErrParen, 0}, {"(a(b", api.ErrParen, 2},
		{"[", api.ErrSet, 0}, {"[]", api.ErrSet, 0}, {"a[^]", api.ErrSet, 1}, {"[a", api.ErrSet, 0}, {"[[:x:]]", api.ErrClass, 1}, {"[[:alpha", api.ErrSet, 0}, {"[[.a.]]", api.ErrSet, 1}, {"[b-a]", api.ErrSet, 1}, {"[a-[:digit:]]", api.ErrSet, 1},
		{"[[:x:]", api.ErrClass, 1}, {"[b-a", api.ErrSet, 1},
		{many("a", 1025), api.ErrLong, 1024}, {"a\n", api.ErrByte, 1}, {many("(", 65), api.ErrDeep, 64}, {"(a{255}){9}", api.ErrBig, 0},
	} {
		wantFault(t, x.p, x.e, x.at)
	}
}

// P4.1: alternatives and groups, also empty ones.
func TestParseAlternatives(t *testing.T) {
	a, b, c := set("a"), set("b"), set("c")
	wantTree(t, "|", alt(empty(), empty()))
	wantTree(t, "||", alt(empty(), empty(), empty()))
	wantTree(t, "|a", alt(empty(), a))
	wantTree(t, "a||b", alt(a, empty(), b))
	wantTree(t, "a|b|c", alt(a, b, c))
	wantTree(t, "a|(b|c)", alt(a, alt(b, c)))
	wantTree(t, "(a|b)|c", alt(alt(a, b), c))
	wantTree(t, "ab|bc", alt(seq(a, b), seq(b, c)))
	wantTree(t, "(ab|c)", alt(seq(a, b), c))
	wantTree(t, "(|)", alt(empty(), empty()))
	wantTree(t, "(())", empty())
	wantTree(t, "()()", seq(empty(), empty()))
	wantTree(t, "a()b", seq(a, empty(), b))
	wantTree(t, "(ab)c", seq(seq(a, b), c))
	wantTree(t, "((ab))", seq(a, b))
	wantTree(t, "a(b|)c", seq(a, alt(b, empty()), c))
	wantTree(t, "()|()", alt(empty(), empty()))
}

// P4.1: an anchor is a piece wherever it stands.
func TestParseAnchors(t *testing.T) {
	a, b := set("a"), set("b")
	wantTree(t, "^", begin())
	wantTree(t, "$", end())
	wantTree(t, "^^", seq(begin(), begin()))
	wantTree(t, "$^", seq(end(), begin()))
	wantTree(t, "a^b", seq(a, begin(), b))
	wantTree(t, "a$b", seq(a, end(), b))
	wantTree(t, "^|$", alt(begin(), end()))
	wantTree(t, "(^a|b$)", alt(seq(begin(), a), seq(b, end())))
	wantTree(t, "($)?", times(end(), 0, 1))
	wantTree(t, "a*^", seq(times(a, 0, -1), begin()))
	wantTree(t, "\\^\\$", seq(set("^"), set("$")))
}

// P4.1: every byte by itself: one that is no mark is NodeSet of it.
func TestParseEachByte(t *testing.T) {
	for b := range 256 {
		p := string([]byte{byte(b)})
		switch p {
		case "\n":
			wantFault(t, p, api.ErrByte, 0)
		case "[":
			wantFault(t, p, api.ErrSet, 0)
		case "(", ")":
			wantFault(t, p, api.ErrParen, 0)
		case "*", "+", "?", "{":
			wantFault(t, p, api.ErrRepeat, 0)
		case "\\":
			wantFault(t, p, api.ErrEscape, 0)
		case "|":
			wantTree(t, p, alt(empty(), empty()))
		case "^":
			wantTree(t, p, begin())
		case "$":
			wantTree(t, p, end())
		case ".":
			wantTree(t, p, but(""))
		default:
			wantTree(t, p, set(p))
			wantTree(t, "x"+p+"y", seq(set("x"), set(p), set("y")))
			wantTree(t, p+"*", times(set(p), 0, -1))
		}
	}
}

// P4.1: a backslash ahead of every byte, and at the end.
func TestParseEachEscape(t *testing.T) {
	for b := range 256 {
		p := string([]byte{byte(b)})
		switch {
		case p == "\n":
			wantFault(t, "a\\"+p, api.ErrByte, 2)
		case strings.Contains(".[]()*+?{}|^$\\/-", p):
			wantTree(t, "\\"+p, set(p))
			wantTree(t, "a\\"+p+"+b", seq(set("a"), times(set(p), 1, -1), set("b")))
			wantTree(t, "(\\"+p+")", set(p))
		default:
			wantFault(t, "\\"+p, api.ErrEscape, 0)
			wantFault(t, "a(b\\"+p+")", api.ErrEscape, 3)
		}
	}
	wantFault(t, "ab\\", api.ErrEscape, 2)
	wantFault(t, "(\\", api.ErrEscape, 1)
	wantFault(t, "\\\\\\", api.ErrEscape, 2)
	wantTree(t, "\\\\\\\\", seq(set("\\"), set("\\")))
}

// P4.1: each repeat, behind each kind of atom.
func TestParseRepeats(t *testing.T) {
	atoms := []example{{"a", set("a")}, {".", but("")}, {"]", set("]")}, {"\\*", set("*")}, {"[ab]", set("ab")}, {"()", empty()}, {"(a|b)", alt(set("a"), set("b"))}, {"(a{2})", times(set("a"), 2, 2)}, {"(^)", begin()}}
	repeats := map[string][2]int{"*": {0, -1}, "+": {1, -1}, "?": {0, 1}, "{0}": {0, 0}, "{1}": {1, 1}, "{0,}": {0, -1}, "{1,}": {1, -1}, "{0,1}": {0, 1}, "{3,5}": {3, 5}, "{5,5}": {5, 5}, "{0,0}": {0, 0}}
	for _, atom := range atoms {
		for repeat, counts := range repeats {
			again := times(atom.want, counts[0], counts[1])
			p := atom.p + repeat
			wantTree(t, p, again)
			wantTree(t, "x"+p+"y", seq(set("x"), again, set("y")))
			wantTree(t, p+"|"+p, alt(again, again))
			wantTree(t, "("+p+")"+repeat, times(again, counts[0], counts[1]))
			wantFault(t, p+"*", api.ErrRepeat, len(p))
			wantFault(t, p+"+", api.ErrRepeat, len(p))
			wantFault(t, p+"?", api.ErrRepeat, len(p))
			wantFault(t, p+"{2}", api.ErrRepeat, len(p))
		}
	}
	wantTree(t, "ab*", seq(set("a"), times(set("b"), 0, -1)))
	wantTree(t, "a*b*", seq(times(set("a"), 0, -1), times(set("b"), 0, -1)))
}

// P4.1: a repeat where a piece begins is a fault there, at the repeat.
func TestParseRepeatOfNothing(t *testing.T) {
	for _, ahead := range []string{"", "(", "a(", "a|", "|", "(a|", "^", "$", "a^", "a$", "(^", "a*", "a{1,2}", "()|", "a+^"} {
		for _, repeat := range []string{"*", "+", "?", "{", "{1}", "{x"} {
			wantFault(t, ahead+repeat, api.ErrRepeat, len(ahead))
			wantFault(t, ahead+repeat+")", api.ErrRepeat, len(ahead))
		}
	}
}

// P4.1: counts of one to three digits, up to MaxCount, the second no less than the first.
func TestParseCounts(t *testing.T) {
	a := set("a")
	for n := range 1000 {
		for _, form := range []string{"%d", "%02d", "%03d"} {
			count := fmt.Sprintf(form, n)
			if n > api.MaxCount {
				wantFault(t, "a{"+count+"}", api.ErrCount, 1)
				wantFault(t, "a{"+count+",}", api.ErrCount, 1)
				wantFault(t, "a{0,"+count+"}", api.ErrCount, 1)
				wantFault(t, "a{"+count+","+count+"}", api.ErrCount, 1)
				continue
			}
			wantTree(t, "a{"+count+"}", times(a, n, n))
			wantTree(t, "a{"+count+",}", times(a, n, -1))
			wantTree(t, "a{0,"+count+"}", times(a, 0, n))
			wantTree(t, "a{"+count+","+count+"}", times(a, n, n))
			wantTree(t, "a{"+count+",255}", times(a, n, 255))
		}
	}
	for least := range 30 {
		for most := range 30 {
			p := fmt.Sprintf("ba{%d,%d}", least, most)
			if most < least {
				wantFault(t, p, api.ErrCount, 2)
			} else {
				wantTree(t, p, seq(set("b"), times(a, least, most)))
			}
		}
	}
	wantTree(t, "a{9,10}", times(a, 9, 10))
	wantTree(t, "a{000}", times(a, 0, 0))
	wantFault(t, "a{255,254}", api.ErrCount, 1)
	wantFault(t, "a{10,9}", api.ErrCount, 1)
}

// P4.1: what no repeat has behind its '{'.
func TestParseNoCount(t *testing.T) {
	for _, behind := range []string{"", "}", ",", ",}", ",,}", ",2}", "1", "12", "123", "1,", "1,2", "1,2,", "1,2,3}", "1,,2}", "1;2}", "1 }", " 1}", "1, 2}", "-1}", "+1}", "1,-1}", "0001}", "0,0001}", "0000,1}", "0255}", "99999999999999999999}", "1,99999999999999999999}", "18446744073709551617}", "x}", "1x}", "1,x}", "{1}}", "1{", "1,2{", "1)", "1|2}", "/}", ":}", "1/}", "1:}", "\xb2}", "1]"} {
		wantFault(t, "a{"+behind, api.ErrCount, 1)
		wantFault(t, "(b{"+behind, api.ErrCount, 2)
		wantFault(t, "[a]{"+behind, api.ErrCount, 3)
		wantFault(t, "xy(){"+behind+"*)[", api.ErrCount, 4)
	}
}

// P4.1: groups in one another, up to MaxDepth, and next to one another, as many as there are.
func TestParseDepth(t *testing.T) {
	for n := 1; n <= api.MaxDepth; n++ {
		wantTree(t, many("(", n)+"a"+many(")", n), set("a"))
		wantTree(t, many("(", n)+many(")", n)+"*", times(empty(), 0, -1))
		wantFault(t, many("(", n), api.ErrParen, n-1)
		wantFault(t, many("(", n)+many(")", n-1), api.ErrParen, 0)
		wantFault(t, many("(", n)+many(")", n+1), api.ErrParen, 2*n)
	}
	for n := api.MaxDepth + 1; n < api.MaxDepth+4; n++ {
		wantFault(t, many("(", n)+many(")", n), api.ErrDeep, api.MaxDepth)
		wantFault(t, "a|b"+many("(", n)+"*", api.ErrDeep, 3+api.MaxDepth)
	}
	deep := many("(", 64) + many(")", 64)
	wantTree(t, deep+deep, seq(empty(), empty()))
	wantTree(t, deep+"|"+deep, alt(empty(), empty()))
	wantFault(t, "("+deep+")", api.ErrDeep, 64)
	wantFault(t, deep+"("+deep+")", api.ErrDeep, 128+64)
	half := many("(", 63) + many("()", 200) + many(")", 63)
	if got, _, e := Parse(half); e != api.OK || len(got.Subs) != 200 {
		t.Errorf("200 groups next to one another in 63: %d subs, %d", len(got.Subs), e)
	}
	wantFault(t, many("(", 64)+"[(]"+"\\("+"(", api.ErrDeep, 64+5)
	row, _, e := Parse(many("()", 512))
	if e != api.OK || len(row.Subs) != 512 {
		t.Errorf("512 groups next to one another: %d subs, %d", len(row.Subs), e)
	}
}

// P4.1: a bracket that closes nothing, and the last one that isn't closed.
func TestParseBrackets(t *testing.T) {
	wantFault(t, "())", api.ErrParen, 2)
	wantFault(t, "(a)b)c(", api.ErrParen, 4)
	wantFault(t, "a|)", api.ErrParen, 2)
	wantFault(t, "^)", api.ErrParen, 1)
	wantFault(t, "a*)", api.ErrParen, 2)
	wantFault(t, "(", api.ErrParen, 0)
	wantFault(t, "a(", api.ErrParen, 1)
	wantFault(t, "(()", api.ErrParen, 0)
	wantFault(t, "(()(", api.ErrParen, 3)
	wantFault(t, "(a|b", api.ErrParen, 0)
	wantFault(t, "(a)(b(c)", api.ErrParen, 3)
	wantFault(t, "(a\\)", api.ErrParen, 0)
	wantFault(t, "(a[)]", api.ErrParen, 0)
}

// P4.1: MaxPattern bytes are read, one more is not, whatever they are.
func TestParseLength(t *testing.T) {
	got, at, e := Parse(many("a", api.MaxPattern))
	if e != api.OK || at != 0 || got.Kind != api.NodeSeq || len(got.Subs) != api.MaxPattern {
		t.Errorf("MaxPattern bytes: %d subs, %d, %d", len(got.Subs), at, e)
	}
	if got, _, e := Parse(many("|", api.MaxPattern)); e != api.OK || len(got.Subs) != api.MaxPattern+1 {
		t.Errorf("MaxPattern times '|': %d subs, %d", len(got.Subs), e)
	}
	wantFault(t, many("*", api.MaxPattern), api.ErrRepeat, 0)
	wantFault(t, many("a", api.MaxPattern-1)+"\\", api.ErrEscape, api.MaxPattern-1)
	for _, p := range []string{"a", "*", "(", "\n", "\\"} {
		for _, n := range []int{api.MaxPattern + 1, api.MaxPattern + 2, 5000} {
			wantFault(t, many(p, n), api.ErrLong, api.MaxPattern)
		}
	}
	wantFault(t, "\n"+many("a", api.MaxPattern), api.ErrLong, api.MaxPattern)
}

// P4.1: a newline comes ahead of all that is met when the pattern is read, wherever it stands.
func TestParseNewline(t *testing.T) {
	for _, x := range []struct {
		p  string
		at int
	}{{"\n", 0}, {"a\nb", 1}, {"a\nb\n", 1}, {"*\n", 1}, {")\n", 1}, {"[\n]", 1}, {"\\\n", 1}, {"a{\n}", 2}, {"[[:\n:]]", 3}, {"(((\n", 3}, {"(a{255}){9}\n", 11}, {many("a", 1023) + "\n", 1023}} {
		wantFault(t, x.p, api.ErrByte, x.at)
	}
}

// P4.1: every byte as a set's one item, by itself, behind '^', and between others.
func TestParseSetOfEachByte(t *testing.T) {
	for b := range 256 {
		p := string([]byte{byte(b)})
		if p == "\n" {
			continue
		}
		wantTree(t, "[^"+p+"]", but(p))
		wantTree(t, "[^"+p+"x]", but(p+"x"))
		if p == "^" {
			wantFault(t, "[^]", api.ErrSet, 0)
		} else {
			wantTree(t, "["+p+"]", set(p))
			wantTree(t, "["+p+"x]", set(p+"x"))
		}
		if p == "]" {
			wantTree(t, "[x"+p+"y]", seq(set("x"), set("y"), set("]")))
		} else {
			wantTree(t, "[x"+p+"y]", setNode(func(c int) bool {
				return c == 'x' || c == 'y' || c == b && p != "-"
			}))
			wantTree(t, "[x"+p+"]", set("x"+p))
		}
	}
}

// P4.1: ranges between all two bytes.
func TestParseRanges(t *testing.T) {
	for from := range 256 {
		for to := range 256 {
			if from == '\n' || to == '\n' || to == ']' || from == '^' {
				continue
			}
			p := "[" + string([]byte{byte(from)}) + "-" + string([]byte{byte(to)}) + "]"
			if to < from {
				wantFault(t, p, api.ErrSet, 1)
				continue
			}
			wantTree(t, p, setNode(func(b int) bool { return from <= b && b <= to && b != '\n' }))
		}
	}
}

// P4.1: sets whose bytes mean something elsewhere: ']' at the front, '-' at the ends, marks.
func TestParseSets(t *testing.T) {
	for p, want := range map[string]api.Node{
		"[]]": set("]"), "[]a]": set("]a"), "[^]a]": but("]a"), "[]-]": set("]-"), "[^]-]": but("]-"), "[]-a]": set("]^_`a"), "[^]-a]": but("]^_`a"),
		"[-]": set("-"), "[--]": set("-"), "[---]": set("-"), "[-a]": set("-a"), "[^-a]": but("-a"), "[--/]": set("-./"), "[a-c-]": set("abc-"), "[a-c-e]": set("abc-e"), "[a-cx-z]": set("abcxyz"), "[a-a]": set("a"), "[%--]": set("%&'()*+,-"), "[^a-]": but("a-"),
		"[[]": set("["), "[[-]": set("[-"), "[[-^]": set("[\\]^"), "[^[]": but("["), "[A-[]": set("ABCDEFGHIJKLMNOPQRSTUVWXYZ["), "[[[]": set("["), "[[a]": set("[a"), "[a[b]": set("a[b"), "[Z-[-]": set("Z[-"),
		"[:a:]": set(":a"), "[.a.]": set(".a"), "[=a=]": set("=a"), "[:alpha:]": set(":alph"), "[a:[]": set("a:["), "[a.[]": set("a.["),
		"[a^]": set("a^"), "[^^]": but("^"), "[^^-a]": but("^_`a"), "[\\]": set("\\"), "[\\n]": set("\\n"), "[.[(){}*+?|$^]": set(".[(){}*+?|$^"), "[\x00-\xff]": but(""), "[\t-\v]": set("\t\v"), "[^\t-\v]": but("\t\v"), "[aaa]": set("a"), "[ab-da]": set("abcd"),
		"[a]]": seq(set("a"), set("]")), "[a-]z]": seq(set("a-"), set("z"), set("]")), "[[-]]": seq(set("[-"), set("]")), "[a][b]": seq(set("a"), set("b")), "[a]|[b]": alt(set("a"), set("b")), "([a])": set("a"),
	} {
		wantTree(t, p, want)
	}
	wantTree(t, "[^\x00-\xff]", api.Node{Kind: api.NodeSet})
	wantTree(t, "[^\x00-\t\v-\xff]*", times(api.Node{Kind: api.NodeSet}, 0, -1))
}

// P4.1: classes by their names, alone, with others, turned about; without the newline.
func TestParseClasses(t *testing.T) {
	for _, name := range []string{"alnum", "alpha", "blank", "cntrl", "digit", "graph", "lower", "print", "punct", "space", "upper", "xdigit"} {
		a, e := octets.Class(name)
		if e != api.OK {
			t.Fatalf("no class %s", name)
		}
		in := func(b int) bool { return b != '\n' && octets.Has(a, byte(b)) }
		out := func(b int) bool { return b != '\n' && !octets.Has(a, byte(b)) }
		wantTree(t, "[[:"+name+":]]", setNode(in))
		wantTree(t, "[^[:"+name+":]]", setNode(out))
		wantTree(t, "[[:"+name+":]\x80-]", setNode(func(b int) bool { return in(b) || b == 0x80 || b == '-' }))
		wantTree(t, "[][:"+name+":]]", setNode(func(b int) bool { return in(b) || b == ']' }))
		wantTree(t, "[\xf0-\xf2[:"+name+":]\xf5]", setNode(func(b int) bool { return in(b) || 0xf0 <= b && b <= 0xf2 || b == 0xf5 }))
		wantFault(t, "[[:"+name+":]", api.ErrSet, 0)
		wantFault(t, "[[:"+name+":", api.ErrSet, 0)
		wantFault(t, "x[[:"+name+"]]", api.ErrSet, 1)
		wantFault(t, "[[:"+strings.ToUpper(name)+":]]", api.ErrClass, 1)
		wantFault(t, "[[:"+name+" :]]", api.ErrClass, 1)
	}
	wantTree(t, "[[:digit:][:digit:]]", set("0123456789"))
	wantTree(t, "[[:digit:]-z]", set("0123456789-z"))
	wantTree(t, "[[:digit:]--/]", set("0123456789-./"))
	wantTree(t, "[[:digit:]-]", set("0123456789-"))
	wantTree(t, "[[:blank:]]+", times(set(" \t"), 1, -1))
}

// P4.1: faults in sets: of an item ahead of the set's want of an end, item by item.
func TestParseSetFaults(t *testing.T) {
	for _, x := range []struct {
		p  string
		e  api.Errno
		at int
	}{
		{"[", api.ErrSet, 0}, {"[^", api.ErrSet, 0}, {"[]", api.ErrSet, 0}, {"[^]", api.ErrSet, 0}, {"[]a", api.ErrSet, 0}, {"[a-", api.ErrSet, 0}, {"[a-b", api.ErrSet, 0}, {"ab[c", api.ErrSet, 2}, {"(([c))", api.ErrSet, 2}, {"[a][b", api.ErrSet, 3}, {"[A-[", api.ErrSet, 0}, {"[[", api.ErrSet, 0}, {"[]-", api.ErrSet, 0},
		{"[[:", api.ErrSet, 0}, {"[[:]", api.ErrSet, 0}, {"[[:]]", api.ErrSet, 0}, {"[a[:x]]", api.ErrSet, 0}, {"x[b-c[:", api.ErrSet, 1}, {"[[:a:", api.ErrSet, 0},
		{"[[::]]", api.ErrClass, 1}, {"[[::]", api.ErrClass, 1}, {"[a[:x:]", api.ErrClass, 2}, {"[^[:x:]]", api.ErrClass, 2}, {"y[[:alpha:][:beta:]]", api.ErrClass, 11}, {"[[:alpha]x[:digit:]]", api.ErrClass, 1}, {"[[:[:digit:]]", api.ErrClass, 1}, {"[[: alpha:]]", api.ErrClass, 1}, {"[[:al\x00pha:]]", api.ErrClass, 1}, {"[[:alpha::]]", api.ErrClass, 1},
		{"[[.", api.ErrSet, 1}, {"[[=", api.ErrSet, 1}, {"[[=a=]]", api.ErrSet, 1}, {"[ab[.c.]]", api.ErrSet, 3}, {"[ab[=", api.ErrSet, 3}, {"[^[.-.]]", api.ErrSet, 2}, {"[][=]=]]", api.ErrSet, 2},
		{"[z-a", api.ErrSet, 1}, {"[^z-a]", api.ErrSet, 2}, {"[ab-a]", api.ErrSet, 2}, {"[a--]", api.ErrSet, 1}, {"[a-cc-a]", api.ErrSet, 4}, {"[]-A]", api.ErrSet, 1}, {"[\xff-\xfe]", api.ErrSet, 1}, {"x(y[b-a", api.ErrSet, 4},
		{"[A-[:upper:]]", api.ErrSet, 1}, {"[A-[.a.]]", api.ErrSet, 1}, {"[A-[=a=]]", api.ErrSet, 1}, {"[A-[:", api.ErrSet, 1}, {"[A-[.", api.ErrSet, 1}, {"[A-[=", api.ErrSet, 1}, {"[xA-[:]", api.ErrSet, 2}, {"[[-[:]]", api.ErrSet, 1},
		{"[[:x:]b-a", api.ErrClass, 1}, {"[b-a[:x:]", api.ErrSet, 1}, {"[b-a[.", api.ErrSet, 1}, {"[[.b-a", api.ErrSet, 1}, {"[[:x:][:", api.ErrClass, 1}, {"[b-a[:", api.ErrSet, 1}, {"q[[:[.", api.ErrSet, 1},
	} {
		wantFault(t, x.p, x.e, x.at)
	}
}

// P4.1: of two faults the one further to the left is told; what is asked of the whole comes last.
func TestParseFirstFault(t *testing.T) {
	faults := []struct {
		p  string // stands behind an atom
		e  api.Errno
		at int
	}{
		{"(*)", api.ErrRepeat, 1}, {"^+", api.ErrRepeat, 1}, {"a{9", api.ErrCount, 1}, {"a{2,1}", api.ErrCount, 1}, {"\\a", api.ErrEscape, 0}, {")", api.ErrParen, 0}, {"[b-a]", api.ErrSet, 1}, {"[[:x:]]", api.ErrClass, 1}, {"[[=x=]]", api.ErrSet, 1}, {many("(", 65), api.ErrDeep, 64},
	}
	for _, one := range faults {
		for _, two := range faults {
			wantFault(t, one.p+"x"+two.p, one.e, one.at)
			wantFault(t, "abc"+one.p+"x"+two.p, one.e, 3+one.at)
		}
		wantFault(t, one.p+"(", one.e, one.at)                   // a '(' that isn't closed is told at the end alone
		wantFault(t, "(a{255}){9}"+one.p, one.e, 11+one.at)      // likewise places
		wantFault(t, one.p+"(a{255}){9}", one.e, one.at)         //
		wantFault(t, one.p+many("a", 1025), api.ErrLong, 1024)   // length and newlines come first
		wantFault(t, one.p+"\n"+one.p, api.ErrByte, len(one.p))  //
		wantFault(t, many("\n", 1025)+one.p, api.ErrLong, 1024)  //
		wantFault(t, "[a"+one.p+"\n", api.ErrByte, len(one.p)+2) //
	}
	wantFault(t, "((a{255}){9}", api.ErrParen, 0)
	wantFault(t, "(*", api.ErrRepeat, 1)
	wantFault(t, "(a{1", api.ErrCount, 2)
	wantFault(t, "(\\", api.ErrEscape, 1)
	wantFault(t, "([", api.ErrSet, 1)
	wantFault(t, many("(", 64)+"*", api.ErrRepeat, 64)
	wantFault(t, many("(", 65)+"*", api.ErrDeep, 64)
}

// P4.1, P4.2: MaxPlaces places, the beginning with them, are the most.
func TestParsePlaces(t *testing.T) {
	rows := many("a{255}", 8) // 2040 places
	for _, x := range []struct {
		p string
		n int // with the beginning
	}{
		{rows + many("b", 7), 2048}, {rows + many("b", 6), 2047}, {"((a{89}){23})", 2048}, {"(a{0,255}){7}" + many("b", 255), 2048}, {many("a|", 510) + "a|b", 512 + 512 + 1 + 1}, {many("|", 1024), 1027}, {"(((a{255}){255}){255}){0}", 1}, {"((((a{255}){255}){0}){255}){255}", 1}, {"(((){255}){255}){255}", 1}, {"(){255}", 1},
	} {
		got, _, e := Parse(x.p)
		if n := Places(got); e != api.OK || n != x.n {
			t.Errorf("%.40q: %d places, %d, want %d", x.p, n, e, x.n)
		}
	}
	for _, p := range []string{rows + many("b", 8), rows + many("b", 9), rows + "b{255}", "((a{64}){32})", "(a{255}){9}", "(((a{255}){255}){255}){255}", "((((a{255}){255}){255}){255}){255,}", rows + many("b", 6) + "b?", rows + many("b", 5) + "b*", "(" + rows + ")+", many("(", 64) + "a" + many("){255}", 64), "((a{0}|b){255}){255}"} {
		wantFault(t, p, api.ErrBig, 0)
	}
}

// words are what patterns by chance are made of: such as mean something, whole and in pieces.
func words() []string {
	return []string{"a", "b", "c", "]", "}", "-", ",", ":", ".", "=", "/", "\\", "|", "(", ")", "*", "+", "?", "{", "[", "^", "$", "0", "1", "2", "255", "256", "{1}", "{2,}", "{1,3}", "{255}", "{3,1}", "[^", "[]", "[a-c]", "[c-a]", "[:", ":]", "[:alpha:]", "[[:digit:]", "[:x:]", "[.", "[=", "a-", "-[", "\\.", "\\\\", "\\n", "()", "(a", "|)", "\x00", "\xff", "\x80-\xff", "ab*", "(a|b)"}
}

// P4.1: every pattern of some few bytes is read as the chapter's words say.
func TestParseAllShort(t *testing.T) {
	for _, x := range []struct {
		bytes string
		most  int
	}{
		{"a|()*^\\.", 5}, {"a{1,}2*(", 5}, {"[]^-ab", 6}, {"[]:-a^", 6}, {"[]-:.=A", 5}, {"\n(*", 6}, {"a{}0259,", 5}, {"([)]a{1}*", 4}, {"a$^?+|()", 4}, {"\\[]^-a(*", 5}, {"{,}12", 6},
	} {
		p := make([]byte, 0, x.most)
		var grow func()
		grow = func() {
			wantSlow(t, string(p))
			if len(p) == x.most || t.Failed() {
				return
			}
			for i := range len(x.bytes) {
				p = append(p, x.bytes[i])
				grow()
				p = p[:len(p)-1]
			}
		}
		grow()
	}
}

// chance is a pattern by chance.
func chance(source *rand.Rand, list []string, most int) string {
	p := ""
	for range source.Intn(most + 1) {
		p += list[source.Intn(len(list))]
	}
	return p
}

// spelt is a pattern by chance that is read, of groups at most so deep, and its tree.
func spelt(source *rand.Rand, deep int) (string, api.Node) {
	p, whole := "", []api.Node{}
	for i := range 1 + source.Intn(3) {
		if i > 0 {
			p += "|"
		}
		var pieces []api.Node
		for range source.Intn(4) {
			text, piece := speltPiece(source, deep)
			p += text
			pieces = append(pieces, piece)
		}
		switch len(pieces) {
		case 0:
			whole = append(whole, empty())
		case 1:
			whole = append(whole, pieces[0])
		default:
			whole = append(whole, seq(pieces...))
		}
	}
	if len(whole) == 1 {
		return p, whole[0]
	}
	return p, alt(whole...)
}

func speltPiece(source *rand.Rand, deep int) (string, api.Node) {
	var p string
	var piece api.Node
	switch k := source.Intn(8); {
	case k == 0:
		return "^", begin()
	case k == 1:
		return "$", end()
	case k == 2:
		p, piece = ".", but("")
	case k == 3:
		b := ".[]()*+?{}|^$\\/-"[source.Intn(16)]
		p, piece = "\\"+string(b), set(string(b))
	case k == 4:
		p, piece = "[]x-z[:digit:]-]", set("]xyz0123456789-")
	case k <= 6 && deep > 0:
		p, piece = spelt(source, deep-1)
		p = "(" + p + ")"
	default:
		b := "ab]}-,:=/ \x00\xff"[source.Intn(12)]
		p = string([]byte{b})
		piece = set(p)
	}
	switch source.Intn(8) {
	case 0:
		return p + "*", times(piece, 0, -1)
	case 1:
		return p + "+", times(piece, 1, -1)
	case 2:
		return p + "?", times(piece, 0, 1)
	case 3:
		least := source.Intn(4)
		most := least + source.Intn(3)
		return p + fmt.Sprintf("{%d,%d}", least, most), times(piece, least, most)
	}
	return p, piece
}

// P4.1: patterns by chance: ones that are read, and any.
func TestParseByChance(t *testing.T) {
	source := rand.New(rand.NewSource(4))
	list := words()
	bytes := strings.Split(".[](){}*+?|^$\\/-:=,0125abz", "")
	read := 0
	for range 25000 {
		wantSlow(t, chance(source, list, 12))
		wantSlow(t, chance(source, bytes, 10))
		p, want := spelt(source, 4)
		if len(p) > api.MaxPattern || answer(want) > api.MaxPlaces {
			continue
		}
		wantTree(t, p, want)
		wantSlow(t, p)
		read++
		if p != "" { // one byte of it is another one
			spoilt := []byte(p)
			spoilt[source.Intn(len(p))] = bytes[source.Intn(len(bytes))][0]
			wantSlow(t, string(spoilt))
			wantSlow(t, p[:source.Intn(len(p))])
		}
	}
	if read < 12000 {
		t.Errorf("%d patterns were read: too few to tell", read)
	}
	for range 1000 {
		wantSlow(t, chance(source, list, 1100))
		wantSlow(t, "("+many(chance(source, list, 3), 1+source.Intn(60))+")")
	}
}

// P4.2: the chapter's examples of places.
func TestPlacesExamples(t *testing.T) {
	for p, want := range map[string]int{"": 1, "a": 2, "ab": 3, "^a$": 4, "a{0,3}": 5, "a{1,3}": 5, "a|b": 6, "a*": 4, "(){255}": 1, "((a{45}){45})": 2026, "a+": 5, "a?": 3, "a{0}": 1, "()*": 1, "a{255,}": 259, "(a|b){2}": 11, "|": 4, "a{3}": 4, "a{2,}": 6, "a{2,5}": 7, "[^a]": 2, ".": 2, "^": 2, "$": 2, "(^)*": 4, "(a?){2,4}": 10, "(ab){0,2}": 6, "a|b|c": 8} {
		got, _, e := Parse(p)
		if n := Places(got); n != want || e != api.OK {
			t.Errorf("Places of %q: %d, want %d", p, n, want)
		}
	}
}

// P4.2: places at the edge of MaxPlaces, of trees that no pattern has too.
func TestPlacesEdges(t *testing.T) {
	a := set("a")
	row := func(n int) api.Node { return seq(slices.Repeat([]api.Node{a}, n)...) }
	for n := 2040; n < 2060; n++ {
		wantPlaces(t, row(n), min(n+1, 2049))
		wantPlaces(t, seq(row(n/2), row(n-n/2)), min(n+1, 2049))
		wantPlaces(t, times(row(n), 1, 1), min(n+1, 2049))
		wantPlaces(t, times(row(n), 0, 1), min(n+2, 2049))
		wantPlaces(t, times(row(n), 0, -1), min(n+3, 2049))
		wantPlaces(t, alt(row(n-3), empty()), min(n+1, 2049))
		wantPlaces(t, times(row(n), 0, 0), 1)
	}
	wantPlaces(t, times(row(1023), 1, -1), 2049)
	wantPlaces(t, times(row(1022), 1, -1), 2047)
	wantPlaces(t, times(row(682), 2, 3), 2048)
	wantPlaces(t, api.Node{Kind: api.NodeSet}, 2)
	wantPlaces(t, seq(empty(), empty()), 1)
	wantPlaces(t, times(seq(empty(), empty()), 0, -1), 1)
	wantPlaces(t, times(alt(empty(), empty()), 3, 3), 10)
	wantPlaces(t, seq(times(times(row(3000), 255, 255), 0, 0), a), 2)
	wantPlaces(t, times(times(times(a, 255, 255), 255, 255), 255, 255), 2049)
	wantPlaces(t, times(times(row(3000), 0, 0), 255, -1), 1)
	wantPlaces(t, api.Node{Kind: api.NodeEmpty, Subs: []api.Node{}}, 1) // W4: an empty list is none
	wantPlaces(t, api.Node{Kind: api.NodeSet, Subs: []api.Node{}, Set: a.Set}, 2)
}

// someTree is a tree by chance.
func someTree(source *rand.Rand, deep int) api.Node {
	kind := 1 + source.Intn(7)
	if deep == 0 && (kind == api.NodeSeq || kind == api.NodeAlt || kind == api.NodeTimes) {
		kind = api.NodeSet
	}
	subs := func(n int) []api.Node {
		var list []api.Node
		for range n {
			list = append(list, someTree(source, deep-1))
		}
		return list
	}
	switch kind {
	case api.NodeSet:
		word := source.Uint64
		return api.Node{Kind: kind, Set: api.Set{word() &^ (1 << 10), word(), word(), word()}}
	case api.NodeSeq, api.NodeAlt:
		return api.Node{Kind: kind, Subs: subs(2 + source.Intn(3))}
	case api.NodeTimes:
		counts := []int{0, 0, 1, 2, 3, 254, 255}
		least := counts[source.Intn(len(counts))]
		most := counts[source.Intn(len(counts))]
		if most < least {
			most = -1
		}
		return api.Node{Kind: kind, Subs: subs(1), Min: least, Max: most}
	}
	return api.Node{Kind: kind}
}

// nodes is a tree's nodes, all of them.
func nodes(t *api.Node) []*api.Node {
	list := []*api.Node{t}
	for i := range t.Subs {
		list = append(list, nodes(&t.Subs[i])...)
	}
	return list
}

// P4.2: places of trees by chance, as whole numbers say.
func TestPlacesByChance(t *testing.T) {
	source := rand.New(rand.NewSource(5))
	great, small := 0, 0
	for i := range 60000 {
		n := someTree(source, i%6)
		want := answer(n)
		if want == 2049 {
			great++
		} else if want > 10 {
			small++
		}
		wantPlaces(t, n, want)
	}
	if great < 1000 || small < 1000 {
		t.Errorf("%d trees with too many places and %d without: too few to tell", great, small)
	}
}

// spoils is the ways in which a node of a kind is no tree's.
func spoils(kind int) []func(n *api.Node) {
	a := api.Node{Kind: api.NodeSet, Set: api.Set{0, 1 << 33}}
	list := []func(n *api.Node){
		func(n *api.Node) { n.Kind = 0 },
		func(n *api.Node) { n.Kind = 8 },
		func(n *api.Node) { n.Kind = -1 },
		func(n *api.Node) { n.Kind += 1 << 32 },
		func(n *api.Node) { n.Set[0] |= 1 << 10 },
		func(n *api.Node) { n.Min = -1 },
		func(n *api.Node) { n.Min = 256 },
		func(n *api.Node) { n.Max = -2 },
		func(n *api.Node) { n.Max = 256 },
		func(n *api.Node) { n.Min, n.Max = 3, 2 },
		func(n *api.Node) { n.Min, n.Max = 1<<62, -1 },
		func(n *api.Node) { n.Min, n.Max = 0, 1<<62 },
		func(n *api.Node) { n.Min, n.Max = 256, -1 },
		func(n *api.Node) { n.Min, n.Max = 256, 256 },
		func(n *api.Node) { n.Min, n.Max = -1, -1 },
	}
	for word := range 4 {
		if kind != api.NodeSet {
			list = append(list, func(n *api.Node) { n.Set[word] |= 1 }, func(n *api.Node) { n.Set[word] |= 1 << 63 })
		}
	}
	if kind != api.NodeTimes {
		list = append(list, func(n *api.Node) { n.Min = 1 }, func(n *api.Node) { n.Max = 1 }, func(n *api.Node) { n.Max = -1 }, func(n *api.Node) { n.Subs = n.Subs[:min(1, len(n.Subs))]; n.Kind = api.NodeSeq }, func(n *api.Node) { n.Subs = n.Subs[:min(1, len(n.Subs))]; n.Kind = api.NodeAlt })
	}
	switch kind {
	case api.NodeTimes:
		list = append(list, func(n *api.Node) { n.Subs = nil }, func(n *api.Node) { n.Subs = append(slices.Clone(n.Subs), a) })
	case api.NodeSeq, api.NodeAlt:
		list = append(list, func(n *api.Node) { n.Subs = nil }, func(n *api.Node) { n.Subs = []api.Node{a} })
	default:
		list = append(list, func(n *api.Node) { n.Subs = []api.Node{a} }, func(n *api.Node) { n.Subs = []api.Node{a, a} })
	}
	return list
}

// P4.2: a node of which one thing isn't so, at whatever place of it, is no tree.
func TestPlacesOfNoTree(t *testing.T) {
	wantPlaces(t, api.Node{}, 0)
	a := set("a")
	for _, n := range []api.Node{empty(), a, {Kind: api.NodeSet}, seq(a, a), alt(a, empty(), end()), times(a, 0, 0), times(a, 1, 2), times(a, 0, -1), begin(), end()} {
		for i, spoil := range spoils(n.Kind) {
			bad := n
			bad.Subs = slices.Clone(n.Subs)
			spoil(&bad)
			wantNone := func(what string, whole api.Node) {
				t.Helper()
				if got := Places(whole); got != 0 {
					t.Errorf("Places of %s with the node %s spoilt (%d): %d, want 0", what, tell(n), i, got)
				}
			}
			wantNone("the node", bad)
			wantNone("a row, first", seq(bad, a))
			wantNone("a row, last", seq(a, a, bad))
			wantNone("alternatives", alt(a, bad, a))
			wantNone("a repeat", times(bad, 1, 1))
			wantNone("a repeat of none", times(bad, 0, 0))
			wantNone("what has too many places", seq(times(times(a, 255, 255), 255, 255), times(alt(a, bad), 255, -1)))
		}
	}
}

// P4.2: trees by chance, with one node of them spoilt.
func TestPlacesSpoiltByChance(t *testing.T) {
	source := rand.New(rand.NewSource(6))
	for i := range 20000 {
		whole := someTree(source, i%5)
		all := nodes(&whole)
		one := all[source.Intn(len(all))]
		list := spoils(one.Kind)
		list[source.Intn(len(list))](one)
		if got := Places(whole); got != 0 {
			t.Fatalf("Places(%s) = %d, want 0", tell(whole), got)
		}
	}
}

// P4.3: what is read is a tree of at most MaxPlaces places; brackets change nothing; '|' between two makes NodeAlt of both.
func TestWhatFollows(t *testing.T) {
	source := rand.New(rand.NewSource(7))
	var read []example
	for range 3000 {
		p := chance(source, words(), 8)
		if tree, _, e := Parse(p); e == api.OK {
			read = append(read, example{p, tree})
		}
		p, _ = spelt(source, 3)
		if tree, _, e := Parse(p); e == api.OK {
			read = append(read, example{p, tree})
		}
	}
	read = append(read, examples()...)
	var single []example // without '|' outside of groups
	for _, x := range read {
		if n := Places(x.want); n < 1 || n > api.MaxPlaces {
			t.Fatalf("Parse(%q) has %d places", x.p, n)
		}
		if !strings.Contains(x.p, many("(", 64)) && len(x.p) <= api.MaxPattern-2 {
			wantTree(t, "("+x.p+")", x.want)
		}
		if x.want.Kind != api.NodeAlt {
			single = append(single, x)
		} else if len(x.p) < 100 {
			single = append(single, example{"(" + x.p + ")", x.want})
		}
	}
	for range 20000 {
		one, two := single[source.Intn(len(single))], single[source.Intn(len(single))]
		both := alt(one.want, two.want)
		if len(one.p)+len(two.p) < api.MaxPattern && answer(both) <= api.MaxPlaces {
			wantTree(t, one.p+"|"+two.p, both)
		}
	}
}

// P4.4: no call panics, whatever bytes a pattern has; none says OK without a tree, or a fault outside of the pattern.
func TestAnyBytes(t *testing.T) {
	source := rand.New(rand.NewSource(8))
	for i := range 5000 {
		p := make([]byte, source.Intn(20+i%1100))
		for k := range p {
			p[k] = byte(source.Intn(256))
		}
		wantSlow(t, string(p))
		tree, at, e := Parse(string(p))
		if e != api.OK && (at < 0 || at >= len(p) || !same(tree, api.Node{})) || e == api.OK && (at != 0 || Places(tree) == 0) {
			t.Fatalf("Parse(%q) = %s, %d, %d", p, tell(tree), at, e)
		}
	}
}

// P4.4: Places ends soon: repeats within repeats, 2^16 of them, each of 255, are not unrolled; nor are long rows held.
func TestPlacesEndsSoon(t *testing.T) {
	start := time.Now()
	deep, bare, wide := set("a"), empty(), empty()
	for range 1<<16 - 1 {
		deep = times(deep, 255, -1)
		bare = times(bare, 255, 255)
	}
	wantDeep := func(n api.Node, want int) {
		t.Helper()
		if got := Places(n); got != want {
			t.Errorf("Places = %d, want %d", got, want)
		}
	}
	wantDeep(deep, 2049)
	wantDeep(bare, 1)
	wantDeep(times(deep, 0, 0), 1)
	wide = seq(slices.Repeat([]api.Node{set("a")}, 1<<20)...)
	wantDeep(wide, 2049)
	wide.Subs[1<<20-1].Min = 1
	wantDeep(wide, 0)
	if d := time.Since(start); d > 20*time.Second {
		t.Errorf("it took %v", d)
	}
}

// P4.4: Parse ends soon for the longest patterns of each shape.
func TestParseEndsSoon(t *testing.T) {
	start := time.Now()
	for _, word := range []string{"a", "|", "(", "()", "(a|", "[a]", "[", "[[:", "[[:alpha:]", "[a-", "a{", "a{255}", "a*", "\\", "\\\\", "(a{255}){255}", ":]", "[:", "a-z", "^", "*"} {
		p := many(word, 1024)[:1024]
		wantSlow(t, p)
		wantSlow(t, "["+p[1:])
		wantSlow(t, "[["+p[2:])
	}
	if d := time.Since(start); d > 20*time.Second {
		t.Errorf("it took %v", d)
	}
}

// room is the places in memory of all lists of a tree, spare room too.
func room(n api.Node) []*api.Node {
	var list []*api.Node
	for i := range n.Subs[:cap(n.Subs)] {
		list = append(list, &n.Subs[:cap(n.Subs)][i])
	}
	for _, sub := range n.Subs {
		list = append(list, room(sub)...)
	}
	return list
}

// P4.4, W3: no two lists of an answer share memory, nor do those of two answers, spare room too.
func TestNewMemory(t *testing.T) {
	seen := map[*api.Node]bool{}
	var held []api.Node // so that no memory is used again
	for _, p := range []string{"abc", "abc", "a|b|c", "a|b|c", "(abc)(abc)", "((a|b)*(a|b)*)*", "(a)*(a)*(a)*", "a|(b|(c|(d|e)))", "abcde(fghij(klmno|p|q|r|s))", "()()()|()()|()", "a*", "a*"} {
		for range 3 {
			tree, _, e := Parse(p)
			if e != api.OK {
				t.Fatalf("Parse(%q): %d", p, e)
			}
			held = append(held, tree)
			for _, place := range room(tree) {
				if seen[place] {
					t.Fatalf("Parse(%q): memory that another list has", p)
				}
				seen[place] = true
			}
		}
	}
	for i, tree := range held { // and what is done to one is not to be seen in another
		before := make([]string, len(held))
		for k := range held {
			before[k] = tell(held[k])
		}
		for _, place := range room(tree) {
			place.Kind, place.Min = 99, -i
		}
		for k := range held {
			if k != i && tell(held[k]) != before[k] {
				t.Fatalf("tree %d was changed with tree %d", k, i)
			}
		}
	}
}

// deepCopy is a node with lists of its own.
func deepCopy(n api.Node) api.Node {
	if n.Subs == nil {
		return n
	}
	subs := make([]api.Node, len(n.Subs))
	for i, sub := range n.Subs {
		subs[i] = deepCopy(sub)
	}
	n.Subs = subs
	return n
}

// W3: Places changes nothing of what it is handed, nor the room behind a list.
func TestPlacesChangesNothing(t *testing.T) {
	source := rand.New(rand.NewSource(9))
	for range 2000 {
		n := someTree(source, 4)
		before := deepCopy(n)
		Places(n)
		if !reflect.DeepEqual(n, before) {
			t.Fatalf("Places has changed %s", tell(before))
		}
	}
	behind := []api.Node{set("a"), set("b"), set("c"), set("d")}
	before := slices.Clone(behind)
	Places(api.Node{Kind: api.NodeSeq, Subs: behind[:2]})
	if !reflect.DeepEqual(behind, before) {
		t.Error("Places has changed the room behind a list")
	}
}

// W5: the same is answered again, and to several goroutines at once.
func TestSameAgain(t *testing.T) {
	source := rand.New(rand.NewSource(10))
	var list []string
	for range 300 {
		list = append(list, chance(source, words(), 12))
		p, _ := spelt(source, 3)
		list = append(list, p)
	}
	var group sync.WaitGroup
	wrong := make([]string, 8)
	for k := range wrong {
		group.Go(func() {
			for i := range list {
				p := list[(i*7+k*31)%len(list)]
				got, at, e := Parse(p)
				want, wantAt, wantE := slowParse(p)
				if !same(got, want) || at != wantAt || e != wantE || e == api.OK && Places(got) != answer(want) {
					wrong[k] = p
				}
			}
		})
	}
	group.Wait()
	for _, p := range wrong {
		if p != "" {
			t.Errorf("Parse(%q): another answer", p)
		}
	}
}
