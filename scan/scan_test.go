package scan_test

import (
	"fmt"
	"math"
	"regexp"
	"slices"
	"strings"
	"testing"

	"heron/api"
	"heron/deriv"
	"heron/ere"
	"heron/least"
	"heron/nfa"
	"heron/scan"
	"heron/sim"
	"heron/subset"
)

// fresh is a scanner of patterns that are not refused.
func fresh(t *testing.T, states int, patterns ...string) *scan.Scanner {
	t.Helper()
	s, k, at, e := scan.New(states, patterns...)
	if s == nil || k != 0 || at != 0 || e != api.OK {
		t.Fatalf("New(%d, %.200q) = %v, %d, %d, %v", states, patterns, s != nil, k, at, e)
	}
	return s
}

// wantRefused asks that New tells a pattern, a place and an error, and no scanner.
func wantRefused(t *testing.T, k, at int, e api.Errno, states int, patterns ...string) {
	t.Helper()
	s, gotK, gotAt, gotE := scan.New(states, patterns...)
	if s != nil || gotK != k || gotAt != at || gotE != e {
		t.Fatalf("New(%d, %.200q) = %v, %d, %d, %v, want nil, %d, %d, %v", states, patterns, s != nil, gotK, gotAt, gotE, k, at, e)
	}
}

// wantLine asks what a line meets.
func wantLine(t *testing.T, s *scan.Scanner, line string, want uint32) {
	t.Helper()
	if got := s.Line(line); got != want {
		t.Fatalf("Line(%.200q) = %#x, want %#x (by a table: %v)", line, got, want, s.Tabled())
	}
}

// roads is numbers of states with which patterns have a table, and with which they have none.
func roads() []int { return []int{0, 1, 5, 100, api.MaxStates} }

// trees is those of patterns.
func trees(t *testing.T, patterns ...string) []api.Node {
	t.Helper()
	var list []api.Node
	for _, p := range patterns {
		n, _, e := ere.Parse(p)
		if e != api.OK {
			t.Fatalf("%q: %v", p, e)
		}
		list = append(list, n)
	}
	return list
}

// machine is the machine of patterns.
func machine(t *testing.T, patterns ...string) api.NFA {
	t.Helper()
	var list []api.NFA
	for k, n := range trees(t, patterns...) {
		m, e := nfa.Build(n, k)
		if e != api.OK {
			t.Fatalf("%q: %v", patterns[k], e)
		}
		list = append(list, m)
	}
	m, e := nfa.Union(list...)
	if e != api.OK {
		t.Fatalf("%q: %v", patterns, e)
	}
	return m
}

// lines gives every line of at most so many of some bytes.
func lines(bytes string, most int, with func(line string)) {
	with("")
	if most == 0 {
		return
	}
	for i := range len(bytes) {
		lines(bytes, most-1, func(rest string) { with(bytes[i:i+1] + rest) })
	}
}

// numbered is so many patterns, each of one letter, from 'A' on.
func numbered(n int) []string {
	list := make([]string, n)
	for k := range list {
		list[k] = string(rune('A' + k))
		if strings.Contains("[\\^", list[k]) {
			list[k] = "\\" + list[k]
		}
	}
	return list
}

// P13.1, P13.2, P13.3: the chapter's examples.
func TestExamples(t *testing.T) {
	for _, states := range []int{100, 0} {
		s := fresh(t, states, "err|warn", "^$", "[0-9]{3}")
		wantLine(t, s, "an error 404", 5)
		wantLine(t, s, "", 2)
		wantLine(t, s, "warn", 1)
		wantLine(t, s, "x 12 x", 0)
		if s.Tabled() != (states == 100) {
			t.Errorf("%d states: Tabled() = %v", states, s.Tabled())
		}
	}
	wantRefused(t, 1, 1, api.ErrParen, 9, "a", "b(", "*")
	wantRefused(t, 0, 0, api.ErrInval, -1, "(")
	wantRefused(t, 0, 0, api.ErrInval, 4097, "a")
	wantRefused(t, 0, 0, api.ErrRules, 9)
	wantRefused(t, 0, 0, api.ErrRules, 9, slices.Repeat([]string{"a"}, 33)...)
	lines("a\n\x00\xff", 3, func(line string) { wantLine(t, fresh(t, 9, ""), line, 1) })
	if fresh(t, 1, "a").Tabled() || !fresh(t, 3, "a").Tabled() {
		t.Error("a: a table of 1 state, or none of 3")
	}
	s := fresh(t, 0, "x$", "^x", "a^b", "(^|a)b")
	wantLine(t, s, "x", 3)
	wantLine(t, s, "ab", 8)
	wantLine(t, s, "b", 8)
	wantLine(t, s, "cb", 0)
}

// P13.1: how many states a table may be allowed.
func TestNewStates(t *testing.T) {
	for _, states := range []int{math.MinInt, -1 << 32, -4096, -2, -1, 4097, 4098, 1 << 16, 1 << 32, 1<<32 + 9, math.MaxInt} {
		wantRefused(t, 0, 0, api.ErrInval, states, "a")
		wantRefused(t, 0, 0, api.ErrInval, states, "a", "b")
	}
	for _, states := range []int{0, 1, 2, 3, 4, 100, 4094, 4095, 4096} {
		wantLine(t, fresh(t, states, "a"), "xa", 1)
	}
}

// P13.1: how many patterns there may be.
func TestNewHowMany(t *testing.T) {
	for _, states := range roads() {
		wantRefused(t, 0, 0, api.ErrRules, states)
		wantRefused(t, 0, 0, api.ErrRules, states, []string{}...)
		for n := 1; n <= 32; n++ {
			wantLine(t, fresh(t, states, slices.Repeat([]string{"a"}, n)...), "a", uint32(1<<n-1))
		}
		for _, n := range []int{33, 34, 64, 65, 256, 257, 1000} {
			wantRefused(t, 0, 0, api.ErrRules, states, slices.Repeat([]string{"a"}, n)...)
		}
	}
}

// P13.1: the states are asked ahead of how many patterns there are, and that ahead of what stands in them.
func TestNewErrorsInOrder(t *testing.T) {
	bad := func(n int) []string { return slices.Repeat([]string{"a("}, n) }
	for _, states := range []int{-1, 4097} {
		for _, n := range []int{0, 1, 2, 32, 33, 100} {
			wantRefused(t, 0, 0, api.ErrInval, states, bad(n)...)
			wantRefused(t, 0, 0, api.ErrInval, states, append(slices.Repeat([]string{"a"}, n), "a(")...)
		}
	}
	for _, states := range roads() {
		for _, n := range []int{33, 34, 100} {
			wantRefused(t, 0, 0, api.ErrRules, states, bad(n)...)
			wantRefused(t, 0, 0, api.ErrRules, states, append(slices.Repeat([]string{"a"}, n-1), "a(")...)
			wantRefused(t, 0, 0, api.ErrRules, states, append([]string{"a("}, slices.Repeat([]string{"a"}, n-1)...)...)
		}
		wantRefused(t, 0, 1, api.ErrParen, states, bad(32)...)
		wantRefused(t, 0, 1, api.ErrParen, states, bad(1)...)
	}
}

type fault struct {
	pattern string
	at      int
	e       api.Errno
}

// faults is a pattern for each error of chapter 4, and some more.
func faults() []fault {
	return []fault{
		{"b(", 1, api.ErrParen}, {")", 0, api.ErrParen}, {"(a(b", 2, api.ErrParen}, {"*", 0, api.ErrRepeat}, {"a**", 2, api.ErrRepeat}, {"^*", 1, api.ErrRepeat},
		{"abc{", 3, api.ErrCount}, {"a{256}", 1, api.ErrCount}, {"ab\\", 2, api.ErrEscape}, {"\\d", 0, api.ErrEscape}, {"xx[a", 2, api.ErrSet}, {"[b-a]", 1, api.ErrSet},
		{"[[:x:]]", 1, api.ErrClass}, {"a\n", 1, api.ErrByte}, {"(*\n", 2, api.ErrByte}, {strings.Repeat("a", 1025), 1024, api.ErrLong}, {strings.Repeat("(", 65), 64, api.ErrDeep}, {"(a{255}){9}", 0, api.ErrBig},
	}
}

// P13.1: the first pattern that is refused is told, by its number, the place in it and its own error, with good ones ahead of it and others that are none behind it.
func TestNewFirstFault(t *testing.T) {
	good := []string{"a", "^$", "", "(a|b)*c{2,3}", ".", "[^x]y"}
	for i, f := range faults() {
		for k := range 32 {
			var list []string
			for j := range k {
				list = append(list, good[j%len(good)])
			}
			list = append(list, f.pattern)
			for _, states := range []int{0, 9, 4096} {
				wantRefused(t, k, f.at, f.e, states, list...)
			}
			for j := len(list); j < 32; j++ {
				list = append(list, faults()[(i+j)%len(faults())].pattern)
			}
			wantRefused(t, k, f.at, f.e, 9, list...)
			for j := k + 1; j < 32; j++ {
				list[j] = good[j%len(good)]
			}
			wantRefused(t, k, f.at, f.e, 9, list...)
		}
	}
}

// P13.1: lists by chance are refused where ere.Parse refuses the first of them, and else are not.
func TestNewByChance(t *testing.T) {
	c := chance(131)
	refused, taken := 0, 0
	for range 20000 {
		list := make([]string, 1+c.Intn(6))
		for i := range list {
			if list[i], _ = c.pattern(); c.Intn(8) == 0 {
				b := []byte(list[i] + "(a{1[]")
				b[c.Intn(len(b))] = "ab()[]{}*+?|^$\\.,1:-\n"[c.Intn(21)]
				list[i] = string(b[:c.Intn(len(b)+1)])
			}
		}
		states := []int{0, 9}[c.Intn(2)]
		bad := slices.IndexFunc(list, func(p string) bool {
			_, _, e := ere.Parse(p)
			return e != api.OK
		})
		if bad < 0 {
			fresh(t, states, list...)
			taken++
			continue
		}
		_, at, e := ere.Parse(list[bad])
		wantRefused(t, bad, at, e, states, list...)
		refused++
	}
	if refused < 2000 || taken < 2000 {
		t.Errorf("%d refused, %d taken", refused, taken)
	}
}

// P13.1: the greatest patterns that there may be are taken, one byte or place more is not.
func TestNewGreatest(t *testing.T) {
	for _, states := range []int{0, 100} {
		long := strings.Repeat("a", 1024)
		s := fresh(t, states, "b", long)
		wantLine(t, s, "b"+long, 3)
		wantLine(t, s, long[1:]+"b", 1)
		wantRefused(t, 1, 1024, api.ErrLong, states, "b", long+"a")
		big := strings.Repeat("a{255}", 8) + "a{7}" // 2047 places
		s = fresh(t, states, "b", big)
		wantLine(t, s, strings.Repeat("a", 2047), 2)
		wantLine(t, s, strings.Repeat("a", 2046), 0)
		wantRefused(t, 1, 0, api.ErrBig, states, "b", big+"a")
		deep := strings.Repeat("(", 64) + "a" + strings.Repeat(")", 64)
		wantLine(t, fresh(t, states, "b", deep), "a", 2)
		wantRefused(t, 1, 64, api.ErrDeep, states, "b", "("+deep+")")
	}
}

// P13.2: ordinary patterns and lines, which a matcher of another make tells alike.
func TestLineOrdinary(t *testing.T) {
	patterns := []string{"err|warn", "^$", "[0-9]{3}", "^\\[[a-z]+\\]", "(GET|PUT|POST) /[^ ]*", "[[:digit:]]+(\\.[[:digit:]]+){3}", "timeout$", "^(#.*)?$", "a.c", "(ab|ba){2,4}c?$", "[A-F0-9]{4,}", "user=([a-z]|[0-9])+ ", " +$", "x*", "^x+y?$", "disk (full|[5-9][0-9]%)"}
	list := []string{"", "an error 404", "warn", "[info] up", "info] up", "GET /a/b 200", "GET x", "10.0.0.127 said no", "10.0.0 said no", "timeout", "timeout ", "# a remark", "a # remark", "abc", "ac", "abbac", "ababbabac", "abababababc", "DEAD BEEF", "DEA BEE", "user=bob7 in", "user= in", "user=Bob in", "xxxy", "xxyy", "disk 97%", "disk 47%", "disk full", "x", "  ", "[warn] disk 55% at 127.0.0.1 timeout"}
	for _, states := range roads() {
		s := fresh(t, states, patterns...)
		for _, line := range list {
			want := uint32(0)
			for k, p := range patterns {
				if regexp.MustCompile("(?s)" + p).MatchString(line) {
					want |= 1 << k
				}
			}
			wantLine(t, s, line, want)
		}
	}
}

// P13.2: every byte is a byte like others, also where bytes look like parts of runes; '.' and '[^..]' take all but the newline.
func TestLineAnyBytes(t *testing.T) {
	for _, states := range roads() {
		s := fresh(t, states, "^.$", "[^a]", "\x00", "\xff", "[\x00-\x09]", "[\x80-\xff]", "é", "^..$", "[[:space:]]", "a")
		for b := range 256 {
			want := uint32(0)
			for k, is := range []bool{b != 10, b != 10 && b != 'a', b == 0, b == 255, b < 10, b >= 128, false, false, b != 10 && (b == ' ' || 9 <= b && b <= 13), b == 'a'} {
				if is {
					want |= 1 << k
				}
			}
			wantLine(t, s, string([]byte{byte(b)}), want)
		}
		wantLine(t, s, "é", 1<<1|1<<5|1<<6|1<<7)
		wantLine(t, s, "\xa9\xc3", 1<<1|1<<5|1<<7)
		wantLine(t, s, "\n\n", 0)
		wantLine(t, s, "\n\x00\xff\na", 1<<1|1<<2|1<<3|1<<4|1<<5|1<<9)
		all := make([]byte, 256)
		for b := range all {
			all[b] = byte(b)
		}
		wantLine(t, s, string(all), 1<<1|1<<2|1<<3|1<<4|1<<5|1<<8|1<<9)
	}
}

// P13.2: '^' is the line's beginning and '$' its end, wherever they stand; a newline in the line is neither.
func TestLineAnchors(t *testing.T) {
	for _, states := range roads() {
		s := fresh(t, states, "^a", "a$", "^a$", "a^", "$a", "^$", "(^)*a", "(a$|^b)+", "x^y|a", "()^()", "($|b)^", "^^a$$", "b$$", "(^a|b$){2}", "a(^b)?", "(a|$)(^|b)$")
		for line, want := range map[string]uint32{
			"": 1<<5 | 1<<9 | 1<<10 | 1<<15, "a": 1<<0 | 1<<1 | 1<<2 | 1<<6 | 1<<7 | 1<<8 | 1<<9 | 1<<11 | 1<<14, "b": 1<<7 | 1<<9 | 1<<12, "ab": 1<<0 | 1<<6 | 1<<8 | 1<<9 | 1<<12 | 1<<13 | 1<<14 | 1<<15,
			"ba": 1<<1 | 1<<6 | 1<<7 | 1<<8 | 1<<9 | 1<<14, "a\n": 1<<0 | 1<<6 | 1<<8 | 1<<9 | 1<<14, "\na": 1<<1 | 1<<6 | 1<<7 | 1<<8 | 1<<9 | 1<<14, "x\ny": 1 << 9, "xy": 1 << 9,
		} {
			wantLine(t, s, line, want)
		}
		lines("ab\n", 4, func(line string) {
			begins, ends, has := strings.HasPrefix(line, "a"), strings.HasSuffix(line, "a"), strings.Contains(line, "a")
			for k, is := range []bool{begins, ends, line == "a", false, false, line == "", has, ends || strings.HasPrefix(line, "b"), has, true, line == "", line == "a"} {
				if got := s.Line(line)>>k&1 == 1; got != is {
					t.Fatalf("%d states, %q, rule %d: %v", states, line, k, got)
				}
			}
		})
	}
}

// P13.2: patterns that take the empty piece are met by every line, unless an anchor says where that stands; those that take nothing by none.
func TestLineEmptyPiece(t *testing.T) {
	for _, states := range roads() {
		all := []string{"", "()", "a*", "|b", "(a|b?)", "x{0}", "(^|a)*", "^", "$", "(){255}", "y{0,9}"}
		none := []string{"a^b", "[^\x00-\xff]", "$x", "x^", "z[^\x00-\xff]*[^\x00-\xff]"}
		s := fresh(t, states, append(append([]string{"^$", "^a*$"}, all...), none...)...)
		every := uint32(1<<len(all)-1) << 2
		lines("abx\x00", 3, func(line string) {
			want := every
			if line == "" {
				want |= 1
			}
			if strings.Trim(line, "a") == "" {
				want |= 2
			}
			wantLine(t, s, line, want)
		})
	}
}

// P13.2: 32 rules at once, each by itself and all together.
func TestLineAllRules(t *testing.T) {
	for _, states := range roads() {
		s := fresh(t, states, numbered(32)...)
		all := ""
		for k := range 32 {
			letter := string(rune('A' + k))
			wantLine(t, s, letter, 1<<k)
			wantLine(t, s, "  "+letter+letter+" ", 1<<k)
			all += letter
			wantLine(t, s, all, uint32(1<<(k+1)-1))
		}
		wantLine(t, s, " 0", 0)
		wantLine(t, s, "", 0)
		ends := numbered(32)
		for k := range ends {
			ends[k] += "$"
		}
		s = fresh(t, states, ends...)
		wantLine(t, s, all, 1<<31)
		wantLine(t, s, all+" ", 0)
		wantLine(t, s, all+"A", 1)
		wantLine(t, fresh(t, states, slices.Repeat([]string{"a"}, 32)...), "xax", 1<<32-1)
		wantLine(t, fresh(t, states, slices.Repeat([]string{"$"}, 32)...), "", 1<<32-1)
	}
}

// P13.2, P0.7: patterns and lines by chance are told as the chapter's words tell them, by trees that no reader has made.
func TestLineByChance(t *testing.T) {
	c := chance(132)
	tabled, met := 0, 0
	for range 3000 {
		patterns, list := c.patterns([]int{1, 1, 2, 3, 5, 32}[c.Intn(6)])
		s := fresh(t, []int{0, 10, 100, 1000}[c.Intn(4)], patterns...)
		if s.Tabled() {
			tabled++
		}
		for range 12 {
			line := c.line(12)
			want := slowLine(list, line)
			if got := s.Line(line); got != want {
				t.Fatalf("%q: Line(%q) = %#x, want %#x (by a table: %v)", patterns, line, got, want, s.Tabled())
			}
			if want != 0 && want != 1<<len(patterns)-1 {
				met++
			}
		}
	}
	if tabled < 500 || tabled > 2500 || met < 5000 {
		t.Errorf("%d tables, %d lines that meet some rules and not all", tabled, met)
	}
}

// P13.2: all short lines over some bytes.
func TestLineAllShort(t *testing.T) {
	patterns := []string{"^(a|b)*a$", "a.b", "(aa|b){2}$", "^a?b?a?$", "b[^a]b", "(a|ab)(ba|a)$", "a{2,3}b", "^(ab)+$", "(^a|b)(a|b$)", "a[^b]b", "((a*b)*a)*$", "a(a|^|$)a", "^.{3}$"}
	list := trees(t, patterns...)
	for _, states := range []int{0, 4096} {
		s := fresh(t, states, patterns...)
		if s.Tabled() != (states > 0) {
			t.Errorf("%d states: Tabled() = %v", states, s.Tabled())
		}
		lines("ab\n", 7, func(line string) { wantLine(t, s, line, slowLine(list, line)) })
	}
}

// P13.2: long lines, a piece at the front, in the midst and at the end.
func TestLineLong(t *testing.T) {
	for _, states := range []int{0, 1000} {
		s := fresh(t, states, "ab{3}c", "^ab", "c$", "x", "(a|b){40}$")
		for _, n := range []int{1, 63, 64, 65, 4095, 4096, 20000} {
			fill := strings.Repeat("-", n)
			wantLine(t, s, fill, 0)
			wantLine(t, s, "abbbc"+fill, 3)
			wantLine(t, s, fill+"abbbc"+fill, 1)
			wantLine(t, s, fill+"abbbc", 5)
			wantLine(t, s, fill+"ab"+fill+"bbc"+fill, 0)
			wantLine(t, s, fill+strings.Repeat("ba", 20), 16)
			wantLine(t, s, fill+strings.Repeat("ba", 19)+"x", 8)
		}
	}
}

// wantTabled asks that patterns have a table just from so many states on (-1: never).
func wantTabled(t *testing.T, need int, patterns ...string) {
	t.Helper()
	ask := []int{0, 1, 2, 3, 64, 4095, 4096}
	if need >= 0 {
		ask = append(ask, max(need-2, 0), need-1, need, min(need+1, 4096))
	}
	for _, states := range ask {
		want := need >= 0 && states >= need
		if s := fresh(t, states, patterns...); s.Tabled() != want {
			t.Fatalf("New(%d, %.200q).Tabled() = %v, want %v", states, patterns, !want, want)
		}
	}
}

// P13.3: how many states a table needs of some patterns, written out.
func TestTabled(t *testing.T) {
	wantTabled(t, 1, "")
	wantTabled(t, 2, "", "a*") // behind an 'a' it is in other states, though nothing more is met
	wantTabled(t, 2, "a$")
	wantTabled(t, 2, "^$")
	wantTabled(t, 3, "a") // though its least table has two
	wantTabled(t, 4, "^a")
	wantTabled(t, 4096, "a[ab]{11}$")
	wantTabled(t, -1, "a[ab]{12}$")
	wantTabled(t, -1, "a", "a.{200}$")
	for _, p := range []string{"", "a", "^$"} {
		if fresh(t, 0, p).Tabled() {
			t.Errorf("%q: a table of no states", p)
		}
	}
}

// P13.3: just as many states as subset.Build takes, of patterns by hand and by chance.
func TestTabledAsBuilt(t *testing.T) {
	c := chance(133)
	sets := [][]string{{"err|warn", "^$", "[0-9]{3}"}, numbered(5), {"(a|b)*a(a|b){5}", "b{3}", "^a"}, {"a.{9}b"}, {"a{200}", "^b{100}$"}}
	for range 400 {
		patterns, _ := c.patterns(1 + c.Intn(3))
		sets = append(sets, patterns)
	}
	fewer := 0
	for _, patterns := range sets {
		m := machine(t, patterns...)
		d, e := subset.Build(m, api.MaxStates)
		if e != api.OK {
			wantTabled(t, -1, patterns...)
			continue
		}
		need := len(d.Next)
		if _, e := subset.Build(m, need-1); e != api.ErrCap {
			t.Fatalf("%q: subset.Build takes %d states: %v", patterns, need-1, e)
		}
		wantTabled(t, need, patterns...)
		if small, _ := least.Make(d); len(small.Next) < need {
			fewer++
		}
	}
	if fewer < 100 {
		t.Errorf("%d tables have a smaller least table", fewer)
	}
}

// P13.4: with any number of states the same rules are met.
func TestLineWhateverStates(t *testing.T) {
	c := chance(134)
	for range 150 {
		patterns, list := c.patterns(1 + c.Intn(3))
		var scanners []*scan.Scanner
		for states := range 40 {
			scanners = append(scanners, fresh(t, states, patterns...))
		}
		scanners = append(scanners, fresh(t, 4095, patterns...), fresh(t, 4096, patterns...))
		for range 10 {
			line := c.line(10)
			want := slowLine(list, line)
			for _, s := range scanners {
				wantLine(t, s, line, want)
			}
		}
	}
}

// P13.4: what was asked before changes nothing.
func TestLineWhateverWasAsked(t *testing.T) {
	patterns := []string{"^a", "b$", "a.*b", "^$", "x{3}"}
	list := trees(t, patterns...)
	for _, states := range roads() {
		s := fresh(t, states, patterns...)
		table := s.Tabled()
		var asked []string
		lines("abx", 3, func(line string) { asked = append(asked, line) })
		c := chance(135)
		for range 3000 {
			line := asked[c.Intn(len(asked))]
			wantLine(t, s, line, slowLine(list, line))
			if c.Intn(9) == 0 && s.Tabled() != table {
				t.Fatalf("%d states: Tabled() = %v", states, !table)
			}
		}
	}
}

// P13.4: patterns in another order have their bits in that order.
func TestOrder(t *testing.T) {
	c := chance(136)
	for range 300 {
		patterns, _ := c.patterns(2 + c.Intn(31))
		turned := c.Perm(len(patterns))
		moved := make([]string, len(patterns))
		for k, to := range turned {
			moved[to] = patterns[k]
		}
		states := []int{0, 50, 500}[c.Intn(3)]
		s, o := fresh(t, states, patterns...), fresh(t, states, moved...)
		for range 20 {
			line := c.line(10)
			met, want := s.Line(line), uint32(0)
			for k, to := range turned {
				want |= met >> k & 1 << to
			}
			wantLine(t, o, line, want)
		}
	}
}

// P13.4: a pattern more changes no other's bit.
func TestOneMore(t *testing.T) {
	c := chance(137)
	for range 300 {
		patterns, _ := c.patterns(2 + c.Intn(31))
		states := []int{0, 50, 500}[c.Intn(3)]
		last := len(patterns) - 1
		s, more := fresh(t, states, patterns[:last]...), fresh(t, states, patterns...)
		k := c.Intn(len(patterns))
		without := fresh(t, states, slices.Delete(slices.Clone(patterns), k, k+1)...)
		alone := fresh(t, states, patterns[k])
		for range 20 {
			line := c.line(10)
			met := more.Line(line)
			wantLine(t, s, line, met&(1<<last-1))
			wantLine(t, without, line, met&(1<<k-1)|met>>(k+1)<<k)
			wantLine(t, alone, line, met>>k&1)
		}
	}
}

// P13.4, P0.7: Line is what every other road tells: derivatives, states, the machine's table and the least table of that.
func TestEveryRoad(t *testing.T) {
	c := chance(138)
	tables := 0
	for range 400 {
		patterns, list := c.patterns(1 + c.Intn(4))
		m := machine(t, patterns...)
		d, refused := subset.Build(m, 1000)
		small, _ := least.Make(d)
		for _, states := range []int{0, 1000} {
			s := fresh(t, states, patterns...)
			for range 15 {
				line := c.line(12)
				met := s.Line(line)
				if walked, e := sim.Line(m, line); walked != met || e != api.OK {
					t.Fatalf("%q, %q: %#x, by states %#x, %v", patterns, line, met, walked, e)
				}
				for k, n := range list {
					if takes, e := deriv.Search(n, line); takes != (met>>k&1 == 1) || e != api.OK {
						t.Fatalf("%q, %q: %#x, rule %d by derivatives %v, %v", patterns, line, met, k, takes, e)
					}
				}
				if refused != api.OK {
					continue
				}
				tables++
				run, e := subset.Run(d, line)
				if run != met || e != api.OK {
					t.Fatalf("%q, %q: %#x, by its table %#x, %v", patterns, line, met, run, e)
				}
				if run, e = subset.Run(small, line); run != met || e != api.OK {
					t.Fatalf("%q, %q: %#x, by its least table %#x, %v", patterns, line, met, run, e)
				}
			}
		}
	}
	if tables < 1000 {
		t.Errorf("%d lines by tables", tables)
	}
}

// P13.4: two scanners, asked by turns, and others that are made or refused in between, have nothing to do with one another.
func TestByTurns(t *testing.T) {
	one, two := []string{"a", "^b", "c$"}, []string{"c$", "a", "x", "^$"}
	ones, twos := trees(t, one...), trees(t, two...)
	for _, states := range [][2]int{{0, 0}, {0, 100}, {100, 0}, {100, 100}} {
		s, o := fresh(t, states[0], one...), fresh(t, states[1], two...)
		lines("abcx", 4, func(line string) {
			wantLine(t, s, line, slowLine(ones, line))
			if len(line) == 1 {
				fresh(t, len(line), line, "y", "z")
				wantRefused(t, 1, 1, api.ErrParen, 9, "a", line+"(")
			}
			wantLine(t, o, line, slowLine(twos, line))
			if s.Tabled() != (states[0] > 0) || o.Tabled() != (states[1] > 0) {
				t.Fatalf("%v states: Tabled() = %v, %v", states, s.Tabled(), o.Tabled())
			}
		})
	}
}

// P13.5: the list of patterns is left as it is, and so is the room behind it, and what is written into it later isn't seen.
func TestListIsNotKept(t *testing.T) {
	for _, states := range roads() {
		room := []string{"a", "^b$", "c{2}", "d", "(", "f"}
		list := room[:3]
		kept := slices.Clone(room)
		s := fresh(t, states, list...)
		table := s.Tabled()
		wantRefused(t, 1, 0, api.ErrParen, states, room[3:5]...)
		wantRefused(t, 0, 0, api.ErrInval, -1, list...)
		if !slices.Equal(room, kept) {
			t.Fatalf("%d states: %q", states, room)
		}
		old := trees(t, list...)
		for k := range room {
			room[k] = "x*"
		}
		lines("abcx", 3, func(line string) { wantLine(t, s, line, slowLine(old, line)) })
		if s.Tabled() != table {
			t.Errorf("%d states: Tabled() = %v", states, s.Tabled())
		}
		room[1] = "("
		wantLine(t, s, "cc", 4)
		wantRefused(t, 1, 0, api.ErrParen, states, list...)
	}
}

// P13.5: whatever bytes and numbers come, every call ends and none panics.
func TestAnyArguments(t *testing.T) {
	c := chance(139)
	for range 5000 {
		list := make([]string, c.Intn(4))
		for i := range list {
			b := make([]byte, c.Intn(8))
			for j := range b {
				b[j] = append([]byte("ab()[]{}*+?|^$\\.,1:-\n\x00\xff"), byte(c.Intn(256)))[c.Intn(24)]
			}
			list[i] = string(b)
		}
		states := []int{-1, 0, 1, 20, 4096, 4097}[c.Intn(6)]
		s, k, at, e := scan.New(states, list...)
		if (s == nil) != (e != api.OK) || k < 0 || at < 0 || e == api.OK && k+at != 0 {
			t.Fatalf("New(%d, %q) = %v, %d, %d, %v", states, list, s != nil, k, at, e)
		}
		if e != api.OK {
			continue
		}
		b := make([]byte, c.Intn(20))
		c.Read(b)
		wantLine(t, s, string(b), slowLine(trees(t, list...), string(b)))
	}
}

// great is as many patterns as there may be, each with nearly as many places as it may have.
func great() []string {
	list := make([]string, api.MaxRules)
	for k := range list {
		list[k] = fmt.Sprintf("^([%c%c]{45}.*){42}$", 'a'+k%26, 'b'+k%26)
	}
	return list
}
