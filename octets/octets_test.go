package octets

import (
	"fmt"
	"iter"
	"math/rand"
	"slices"
	"strings"
	"sync"
	"testing"

	"heron/api"
)

// plain is a set told in the simplest way: which bytes it has, one by one.
type plain [256]bool

// row is a row's first and last byte.
type row [2]byte

// edges is the bytes at the ends of a set's words, and about the newline.
var edges = []byte{0, 1, 9, 10, 11, 62, 63, 64, 65, 126, 127, 128, 129, 191, 192, 193, 254, 255}

// setOf is the set of a plain one by the chapter's words: bit b % 64 of word b / 64.
func setOf(p plain) api.Set {
	var a api.Set
	for b, in := range p {
		if in {
			a[b/64] += 1 << (b % 64)
		}
	}
	return a
}

// plainOf is a set's bytes by the chapter's words.
func plainOf(a api.Set) plain {
	var p plain
	for b := range p {
		p[b] = a[b/64]/(1<<(b%64))%2 == 1
	}
	return p
}

// those is the plain set of the bytes that a question says yes to.
func those(ask func(b int) bool) plain {
	var p plain
	for b := range p {
		p[b] = ask(b)
	}
	return p
}

// rowsOf is a plain set's rows by the chapter's words: bytes as many as there are, with none ahead and none behind.
func rowsOf(p plain) []row {
	var l []row
	for from := 0; from < 256; from++ {
		if !p[from] {
			continue
		}
		to := from
		for to < 255 && p[to+1] {
			to++
		}
		l = append(l, row{byte(from), byte(to)})
		from = to
	}
	return l
}

// told is all that an iterator tells.
func told(walk iter.Seq2[byte, byte]) []row {
	var l []row
	for from, to := range walk {
		l = append(l, row{from, to})
	}
	return l
}

// sets is many sets: of none, of all, of one byte, of all but one, of whole words and half ones, of every other byte, and by chance, thin and thick.
func sets() []api.Set {
	full := ^uint64(0)
	list := []api.Set{{}, {full, full, full, full}, {full}, {0, full}, {0, 0, full}, {0, 0, 0, full}, {0, full, full}, {full, 0, 0, full}}
	for _, word := range []uint64{0x5555555555555555, 0xAAAAAAAAAAAAAAAA, 0x8000000000000001, 0x7FFFFFFFFFFFFFFE, 0xFFFFFFFF00000000, 1 << 10, ^uint64(1 << 10)} {
		list = append(list, api.Set{word, word, word, word}, api.Set{word, 0, word}, api.Set{0, word, 0, word})
	}
	for b := range 256 {
		var one api.Set
		one[b/64] = 1 << (b % 64)
		list = append(list, one, api.Set{^one[0], ^one[1], ^one[2], ^one[3]})
	}
	source := rand.New(rand.NewSource(3))
	word := source.Uint64
	for range 100 {
		list = append(list, api.Set{word(), word(), word(), word()})
		list = append(list, api.Set{word() & word() & word(), word() & word() & word(), word() & word() & word(), word() & word() & word()})
		list = append(list, api.Set{word() | word() | word(), word() | word() | word(), word() | word() | word(), word() | word() | word()})
	}
	return list
}

// someSets is some tens of those: the first ones, and of the rest each 17th.
func someSets() []api.Set {
	all := sets()
	list := slices.Clone(all[:29])
	for i := 29; i < len(all); i += 17 {
		list = append(list, all[i])
	}
	return list
}

func wantSet(t *testing.T, what string, got api.Set, want plain) {
	t.Helper()
	if got != setOf(want) {
		t.Fatalf("%s: rows %v, want %v", what, rowsOf(plainOf(got)), rowsOf(want))
	}
}

func wantRows(t *testing.T, what string, got []row, want ...row) {
	t.Helper()
	if !slices.Equal(got, want) {
		t.Fatalf("%s: rows %v, want %v", what, got, want)
	}
}

// P3.1, P3.4: the first example.
func TestOfAndSpanExamples(t *testing.T) {
	a := Of('a', 'c', 'a')
	if a != (api.Set{0, 1<<33 + 1<<35, 0, 0}) || Count(a) != 2 || !Has(a, 'a') || Has(a, 'b') {
		t.Errorf("Of(a, c, a) = %v", a)
	}
	for i, none := range []api.Set{Of(), Of(nil...), Of([]byte{}...), Span('c', 'a')} {
		if none != (api.Set{}) || Count(none) != 0 {
			t.Errorf("none, form %d: %v", i, none)
		}
	}
	for _, c := range []struct {
		from, to byte
		count    int
	}{{'a', 'c', 3}, {'c', 'a', 0}, {0, 255, 256}, {7, 7, 1}, {255, 0, 0}} {
		if n := Count(Span(c.from, c.to)); n != c.count {
			t.Errorf("Count(Span(%d, %d)) = %d, want %d", c.from, c.to, n, c.count)
		}
	}
}

// P3.1: each byte alone, twice, and with each other one, in both orders.
func TestOfEveryByteAndPair(t *testing.T) {
	for x := range 256 {
		one := those(func(b int) bool { return b == x })
		wantSet(t, fmt.Sprintf("Of(%d)", x), Of(byte(x)), one)
		wantSet(t, fmt.Sprintf("Of(%d) three times", x), Of(byte(x), byte(x), byte(x)), one)
		for y := range 256 {
			two := those(func(b int) bool { return b == x || b == y })
			wantSet(t, fmt.Sprintf("Of(%d, %d)", x, y), Of(byte(x), byte(y)), two)
		}
	}
}

// P3.1: any bytes, in any order and some of them again.
func TestOfManyBytes(t *testing.T) {
	source := rand.New(rand.NewSource(31))
	for i, a := range sets() {
		var bytes []byte
		for b, in := range plainOf(a) {
			for range source.Intn(3) + 1 {
				if in {
					bytes = append(bytes, byte(b))
				}
			}
		}
		source.Shuffle(len(bytes), func(i, j int) { bytes[i], bytes[j] = bytes[j], bytes[i] })
		wantSet(t, fmt.Sprintf("Of of set %d", i), Of(bytes...), plainOf(a))
	}
	all := strings.Repeat(string(slices.Repeat([]byte{10, 255, 64}, 100)), 100)
	wantSet(t, "Of of many bytes", Of([]byte(all)...), those(func(b int) bool { return b == 10 || b == 64 || b == 255 }))
}

// P3.1: from every byte to every other one, from right to left too.
func TestSpanEveryPair(t *testing.T) {
	for from := range 256 {
		for to := range 256 {
			want := those(func(b int) bool { return from <= b && b <= to })
			wantSet(t, fmt.Sprintf("Span(%d, %d)", from, to), Span(byte(from), byte(to)), want)
		}
	}
}

// between tells whether a byte lies in one of some rows.
func between(b int, rows ...row) bool {
	return slices.ContainsFunc(rows, func(r row) bool { return int(r[0]) <= b && b <= int(r[1]) })
}

// classes is the chapter's classes by their names, each as a question of a byte.
func classes() map[string]func(b int) bool {
	alpha := func(b int) bool { return between(b, row{65, 90}, row{97, 122}) }
	digit := func(b int) bool { return between(b, row{48, 57}) }
	graph := func(b int) bool { return between(b, row{33, 126}) }
	return map[string]func(b int) bool{
		"alpha":  alpha,
		"digit":  digit,
		"alnum":  func(b int) bool { return alpha(b) || digit(b) },
		"upper":  func(b int) bool { return between(b, row{65, 90}) },
		"lower":  func(b int) bool { return between(b, row{97, 122}) },
		"xdigit": func(b int) bool { return digit(b) || between(b, row{65, 70}, row{97, 102}) },
		"blank":  func(b int) bool { return b == 9 || b == 32 },
		"space":  func(b int) bool { return between(b, row{9, 13}, row{32, 32}) },
		"cntrl":  func(b int) bool { return between(b, row{0, 31}, row{127, 127}) },
		"graph":  graph,
		"print":  func(b int) bool { return between(b, row{32, 126}) },
		"punct":  func(b int) bool { return graph(b) && !alpha(b) && !digit(b) },
	}
}

// P3.2, the second example.
func TestClassExamples(t *testing.T) {
	if a, e := Class("digit"); a != Span('0', '9') || e != api.OK {
		t.Errorf("Class(digit) = %v, %v", a, e)
	}
	for name, n := range map[string]int{"punct": 32, "print": 95, "cntrl": 33, "space": 6, "xdigit": 22} {
		if a, e := Class(name); Count(a) != n || e != api.OK {
			t.Errorf("Class(%q): %d bytes, %v, want %d", name, Count(a), e, n)
		}
	}
	for _, name := range []string{"", "word", "digit "} {
		wantNoClass(t, name)
	}
}

func wantNoClass(t *testing.T, name string) {
	t.Helper()
	if a, e := Class(name); a != (api.Set{}) || e != api.ErrClass {
		t.Fatalf("Class(%q) = %v, %v, want none, E30", name, a, e)
	}
}

// P3.2, P3.6: each class byte by byte; none has a byte above 127; asked again it is the same.
func TestClassEveryByte(t *testing.T) {
	for name, ask := range classes() {
		for range 2 {
			a, e := Class(name)
			if e != api.OK || a[2] != 0 || a[3] != 0 {
				t.Errorf("Class(%q) = %v, %v", name, a, e)
			}
			wantSet(t, name, a, those(ask))
			for b := range 256 {
				if Has(a, byte(b)) != ask(b) {
					t.Errorf("byte %d in %s: %v", b, name, !ask(b))
				}
			}
		}
	}
}

// near is the texts that a name becomes by one byte more, another one or one away, its fronts, and its ends.
func near(name string) []string {
	var list []string
	for i := range len(name) + 1 {
		front, rest := name[:i], name[i:]
		list = append(list, front, rest)
		if rest != "" {
			list = append(list, front+rest[1:])
		}
		for b := range 256 {
			one := string([]byte{byte(b)})
			list = append(list, front+one+rest)
			if rest != "" {
				list = append(list, front+one+rest[1:])
			}
		}
	}
	return list
}

// P3.2: what is near to a name is none (but digit to xdigit); nor is a name in other letters, with another's behind it, or dressed up.
func TestNamesThatAreNone(t *testing.T) {
	known := classes()
	for name := range known {
		list := append(near(name), strings.ToUpper(name), strings.ToUpper(name[:1])+name[1:], "[:"+name+":]", ":"+name+":", "\""+name+"\"", "\ufeff"+name)
		for other := range known {
			list = append(list, name+other, name+" "+other)
		}
		for _, none := range list {
			if known[none] == nil {
				wantNoClass(t, none)
			}
		}
	}
	for _, none := range []string{"ascii", "any", "letter", "word", "control", "a", " ", "\x00", "\xff\xfe", "E30", strings.Repeat("alpha", 10000)} {
		wantNoClass(t, none)
	}
}

// P3.3: the third and the fifth example.
func TestJoinMeetNotExamples(t *testing.T) {
	for a, n := range map[api.Set]int{Not(Of('a')): 254, Not(Of('\n')): 255, Not(Of()): 255, Not(Span(0, 255)): 0, Join(): 0} {
		if Count(a) != n || Has(a, '\n') {
			t.Errorf("%v: %d bytes, want %d", a, Count(a), n)
		}
	}
	if a := Not(Of('a')); Has(a, 'a') || !Has(a, 'b') {
		t.Errorf("Not(Of(a)) = %v", a)
	}
	wantRows(t, "Join", told(Spans(Join(Of('a'), Span('a', 'c'), Of('z')))), row{'a', 'c'}, row{'z', 'z'})
	if a := Meet(Span('a', 'm'), Span('g', 'z')); a != Span('g', 'm') {
		t.Errorf("Meet = %v", a)
	}
}

// P3.3: Join of no set in each form, of one, of one again and again.
func TestJoinOfFew(t *testing.T) {
	for i, none := range []api.Set{Join(), Join(nil...), Join([]api.Set{}...), Join(api.Set{}), Join(api.Set{}, api.Set{})} {
		if none != (api.Set{}) {
			t.Errorf("none, form %d: %v", i, none)
		}
	}
	for _, a := range sets() {
		if Join(a) != a || Join(a, a, a) != a || Join(api.Set{}, a) != a || Join(a, api.Set{}) != a {
			t.Fatalf("Join of %v alone, with itself or with none", a)
		}
	}
}

// P3.3, P3.6: two sets of every kind, byte by byte, in both orders.
func TestJoinAndMeetOfTwo(t *testing.T) {
	list := someSets()
	for _, a := range list {
		for _, b := range list {
			p, q := plainOf(a), plainOf(b)
			what := fmt.Sprintf("%x and %x", a, b)
			wantSet(t, "Join of "+what, Join(a, b), those(func(b int) bool { return p[b] || q[b] }))
			wantSet(t, "Meet of "+what, Meet(a, b), those(func(b int) bool { return p[b] && q[b] }))
			if Join(a, b) != Join(b, a) || Meet(a, b) != Meet(b, a) {
				t.Fatalf("%s: the order counts", what)
			}
		}
	}
}

// P3.3, P3.6: many sets at once, whatever their order.
func TestJoinOfMany(t *testing.T) {
	source := rand.New(rand.NewSource(33))
	var singles []api.Set
	for b := range 256 {
		singles = append(singles, setOf(those(func(x int) bool { return x == b && b != 10 && b != 200 })))
		var want plain
		for x := range b + 1 {
			want[x] = x != 10 && x != 200
		}
		mixed := slices.Clone(singles)
		source.Shuffle(len(mixed), func(i, j int) { mixed[i], mixed[j] = mixed[j], mixed[i] })
		wantSet(t, "Join of many", Join(singles...), want)
		wantSet(t, "Join of many, mixed", Join(mixed...), want)
	}
	wantSet(t, "Join of very many", Join(slices.Repeat([]api.Set{Of(1), Of(77), Of(255)}, 20000)...), plainOf(Of(1, 77, 255)))
}

// P3.3, P3.6: Not byte by byte: the newline is never in it, whether the set has it or not; twice turned about; met with what it was.
func TestNot(t *testing.T) {
	for _, a := range sets() {
		p := plainOf(a)
		what := fmt.Sprintf("%x", a)
		wantSet(t, "Not of "+what, Not(a), those(func(b int) bool { return b != 10 && !p[b] }))
		wantSet(t, "Not of Not of "+what, Not(Not(a)), those(func(b int) bool { return b != 10 && p[b] }))
		if Meet(a, Not(a)) != (api.Set{}) {
			t.Fatalf("Meet(a, Not(a)) of %s = %v", what, Meet(a, Not(a)))
		}
		if Not(Join(a, Of('\n'))) != Not(a) || Has(Not(a), '\n') {
			t.Fatalf("Not of %s hangs on the newline, or has it", what)
		}
	}
}

// P3.4: each byte of each set, and how many there are.
func TestHasAndCount(t *testing.T) {
	for _, a := range sets() {
		n := 0
		for b, in := range plainOf(a) {
			if Has(a, byte(b)) != in {
				t.Fatalf("Has(%x, %d) = %v", a, b, !in)
			}
			if in {
				n++
			}
		}
		if Count(a) != n {
			t.Fatalf("Count(%x) = %d, want %d", a, Count(a), n)
		}
	}
	if Count(api.Set{}) != 0 || Count(Span(0, 255)) != 256 || Count(Span(0, 254)) != 255 || Count(Span(1, 255)) != 255 {
		t.Error("Count of none, of all, or of all but one")
	}
}

// P3.4: the bytes at the words' ends, each alone in a set and alone out of one.
func TestHasAtTheEdges(t *testing.T) {
	for _, x := range edges {
		one := Of(x)
		all := api.Set{^one[0], ^one[1], ^one[2], ^one[3]}
		for b := range 256 {
			if Has(one, byte(b)) != (byte(b) == x) || Has(all, byte(b)) != (byte(b) != x) {
				t.Errorf("byte %d of the set of %d, or of all but it", b, x)
			}
		}
		if Count(one) != 1 || Count(all) != 255 {
			t.Errorf("Count of %d alone is %d, of all but it %d", x, Count(one), Count(all))
		}
	}
}

// P3.5, the fourth example.
func TestSpansExamples(t *testing.T) {
	wantRows(t, "over the words' ends", told(Spans(Of(255, 0, 1, 64, 63))), row{0, 1}, row{63, 64}, row{255, 255})
	wantRows(t, "none", told(Spans(Of())))
	wantRows(t, "all", told(Spans(Span(0, 255))), row{0, 255})
}

// P3.5: the rows of every set, gone through whole and again.
func TestSpansWhole(t *testing.T) {
	for _, a := range sets() {
		walk := Spans(a)
		for range 3 {
			wantRows(t, fmt.Sprintf("%x", a), told(walk), rowsOf(plainOf(a))...)
		}
	}
}

// P3.5: one row and no more, from every byte to every one behind it.
func TestSpansOfEverySpan(t *testing.T) {
	for from := range 256 {
		for to := from; to < 256; to++ {
			wantRows(t, "a span", told(Spans(Span(byte(from), byte(to)))), row{byte(from), byte(to)})
		}
	}
}

// P3.5: left at any place nothing more is told, and it may be gone through again from its beginning.
func TestSpansLeftAnywhere(t *testing.T) {
	for _, a := range someSets() {
		walk, want := Spans(a), rowsOf(plainOf(a))
		for n := range len(want) {
			var got []row
			walk(func(from, to byte) bool {
				got = append(got, row{from, to})
				return len(got) <= n
			})
			wantRows(t, fmt.Sprintf("left at row %d", n), got, want[:n+1]...)
		}
		wantRows(t, "behind all that", told(walk), want...)
	}
}

// P3.5: inside itself, whole and left at any place, at each row of the outer one.
func TestSpansInsideItself(t *testing.T) {
	for _, a := range []api.Set{Of(), Of(0, 255), Of(255, 0, 1, 64, 63), Span(0, 255), {0x5555555555555555, 0, 1 << 63, 1}} {
		walk, want := Spans(a), rowsOf(plainOf(a))
		for n := range len(want) + 1 {
			var outer []row
			for from, to := range walk {
				var inner []row
				for from, to := range walk {
					if len(inner) == n {
						break
					}
					inner = append(inner, row{from, to})
				}
				wantRows(t, fmt.Sprintf("inside, left at row %d", n), inner, want[:n]...)
				outer = append(outer, row{from, to})
			}
			wantRows(t, "outside", outer, want...)
		}
	}
}

// P3.5, W6: an iterator tells the set that stood when it was made; iterators of several sets do not reach one another.
func TestSpansOfWhatStood(t *testing.T) {
	a := Of(3, 4, 200)
	walk := Spans(a)
	a[0], a[3] = ^uint64(0), 0
	other := Spans(a)
	wantRows(t, "changed ahead of the walk", told(walk), row{3, 4}, row{200, 200})
	var got []row
	for from, to := range walk {
		a = api.Set{}
		wantRows(t, "the other", told(other), row{0, 63})
		got = append(got, row{from, to})
	}
	wantRows(t, "changed in the midst of it", got, row{3, 4}, row{200, 200})
}

// P3.5, W1: a panic of what is handed in goes through, and the iterator is as good as before.
func TestSpansLetsAPanicThrough(t *testing.T) {
	walk := Spans(Of(1, 3, 5))
	caught := func() (what any) {
		defer func() { what = recover() }()
		for from := range walk {
			if from == 3 {
				panic("at 3")
			}
		}
		return nil
	}()
	if caught != "at 3" {
		t.Errorf("caught %v", caught)
	}
	wantRows(t, "behind a panic", told(walk), row{1, 1}, row{3, 3}, row{5, 5})
}

// P3.6: joined of its rows a set is itself; its rows have as many bytes as it counts, and are apart.
func TestJoinedOfItsRows(t *testing.T) {
	for _, a := range sets() {
		var parts []api.Set
		n, last := 0, -2
		for from, to := range Spans(a) {
			if int(from) < last+2 || to < from {
				t.Fatalf("%x: a row from %d to %d behind one to %d", a, from, to, last)
			}
			parts = append(parts, Span(from, to))
			n, last = n+int(to)-int(from)+1, int(to)
		}
		if Join(parts...) != a || n != Count(a) {
			t.Fatalf("%x: joined of its rows it is %x, with %d bytes", a, Join(parts...), n)
		}
	}
}

// P3.6: what holds among the classes.
func TestClassesAmongThemselves(t *testing.T) {
	class := func(name string) api.Set {
		a, e := Class(name)
		if e != api.OK || Meet(a, Span(128, 255)) != (api.Set{}) {
			t.Errorf("Class(%q) = %v, %v", name, a, e)
		}
		return a
	}
	for what, pair := range map[string][2]api.Set{
		"alpha":  {class("alpha"), Join(class("upper"), class("lower"))},
		"alnum":  {class("alnum"), Join(class("alpha"), class("digit"))},
		"graph":  {class("graph"), Join(class("alnum"), class("punct"))},
		"print":  {class("print"), Join(class("graph"), Of(' '))},
		"punct":  {class("punct"), Meet(class("graph"), Not(class("alnum")))},
		"digit":  {class("digit"), Meet(class("xdigit"), Not(class("alpha")))},
		"blank":  {class("blank"), Meet(class("space"), Of('\t', ' '))},
		"all":    {Span(0, 127), Join(class("print"), class("cntrl"))},
		"nobody": {Of(), Meet(class("print"), class("cntrl"))},
	} {
		if pair[0] != pair[1] {
			t.Errorf("%s: %x, want %x", what, pair[0], pair[1])
		}
	}
}

// W3: bytes and sets that are handed in, and the room behind them, stay as they were.
func TestNothingHandedInIsChanged(t *testing.T) {
	room := []byte("abcabc\nbehind")
	Of(room[:7]...)
	if string(room) != "abcabc\nbehind" {
		t.Errorf("bytes that were handed in are now %q", room)
	}
	list := someSets()
	was := slices.Clone(list)
	Join(list[:5]...)
	for i := range list[1:] {
		Meet(list[i], list[i+1])
		Not(list[i])
		Has(list[i], '\n')
		Count(list[i])
		told(Spans(list[i]))
	}
	if !slices.Equal(list, was) {
		t.Error("sets that were handed in were changed")
	}
}

// W3, W5: nothing is kept: later changes of what was handed in count in later calls alone, and an answer that is changed reaches no other.
func TestNothingIsKept(t *testing.T) {
	bytes := []byte{1, 2, 3}
	first := Of(bytes...)
	bytes[0] = 9
	if first != (api.Set{14}) || Of(bytes...) != (api.Set{1<<9 + 12}) || Of() != (api.Set{}) {
		t.Error("Of keeps what was handed in")
	}
	list := []api.Set{{1}, {0, 1}}
	joined := Join(list...)
	list[0] = api.Set{2}
	if joined != (api.Set{1, 1}) || Join(list...) != (api.Set{2, 1}) || Join() != (api.Set{}) {
		t.Error("Join keeps what was handed in")
	}
	for name, ask := range classes() {
		a, _ := Class(name)
		a[0], a[1], a[2] = ^a[0], 0, 7
		again, _ := Class(name)
		wantSet(t, name+" again", again, those(ask))
	}
}

// W5, W6: one iterator that several goroutines go through at once, and calls beside it, answer as for one. Long rows, so that many are in the midst of one.
func TestManyAtOnce(t *testing.T) {
	a := Join(Span(0, 40), Span(42, 130), Span(140, 255))
	want := []row{{0, 40}, {42, 130}, {140, 255}}
	walk := Spans(a)
	wrong := make([]int, 8)
	var all sync.WaitGroup
	for i := range wrong {
		all.Go(func() {
			for range 2000 {
				space, e := Class("space")
				if !slices.Equal(told(walk), want) || e != api.OK || Count(Meet(space, a)) != 6 {
					wrong[i]++
				}
			}
		})
	}
	all.Wait()
	for i, n := range wrong {
		if n != 0 {
			t.Errorf("goroutine %d: %d wrong answers", i, n)
		}
	}
}
