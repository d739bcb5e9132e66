package lines_test

import (
	"math"
	"slices"
	"strings"
	"testing"

	"heron/api"
	"heron/lines"
)

// tester is a maker that is asked at each call how it stands.
type tester struct {
	*testing.T
	m *lines.Maker
}

// fresh is a new maker, which has met nothing.
func fresh(t *testing.T, most int) tester {
	t.Helper()
	m, e := lines.New(most)
	if m == nil || e != api.OK {
		t.Fatalf("New(%d): %v, %v", most, m, e)
	}
	x := tester{t, m}
	x.stands(0, 0, 0)
	return x
}

// stands asks for Held, Begun and Long, twice: asking changes nothing.
func (x tester) stands(held, begun, long int) {
	x.Helper()
	for range 2 {
		if h, b, l := x.m.Held(), x.m.Begun(), x.m.Long(); h != held || b != begun || l != long {
			x.Fatalf("Held, Begun, Long = %d, %d, %d, want %d, %d, %d", h, b, l, held, begun, long)
		}
	}
}

// feed feeds a text and asks for all that is answered. The bytes lie in a greater room, none of which may change; then they are written over.
func (x tester) feed(text, line string, taken int, whole bool) {
	x.Helper()
	room := []byte("<<" + text + ">>>>")
	was := string(room)
	got, n, is := x.m.Feed(room[2 : 2+len(text)])
	if got != line || n != taken || is != whole {
		x.Fatalf("Feed(%.40q) = %.40q, %d, %v, want %.40q, %d, %v", text, got, n, is, line, taken, whole)
	}
	if string(room) != was {
		x.Fatalf("Feed(%.40q) has changed what it was handed: %.40q", text, room)
	}
	for i := range room {
		room[i] = "\n#"[i%2]
	}
}

// more feeds a text without a newline.
func (x tester) more(text string, held, begun, long int) {
	x.Helper()
	x.feed(text, "", len(text), false)
	x.stands(held, begun, long)
}

// ends feeds a text up to a newline that ends a line of that text.
func (x tester) ends(text, line string, long int) {
	x.Helper()
	x.feed(text, line, len(text), true)
	x.stands(0, 0, long)
}

// tooLong feeds a text up to a newline that ends a line that is too long.
func (x tester) tooLong(text string, long int) {
	x.Helper()
	x.feed(text, "", len(text), false)
	x.stands(0, 0, long)
}

// drop lets go of the line under way.
func (x tester) drop(long int) {
	x.Helper()
	x.m.Drop()
	x.stands(0, 0, long)
}

// P16.1 to P16.4: the chapter's examples.
func TestExamples(t *testing.T) {
	x := fresh(t, 3)
	x.more("ab", 2, 2, 0)
	x.feed("c\nde\n", "abc", 2, true)
	x.stands(0, 0, 0)
	x.ends("de\n", "de", 0)
	x.ends("\n", "", 0)
	x.more("", 0, 0, 0)

	x = fresh(t, 3)
	x.more("abcd", 0, 4, 0)
	x.feed("e\nf", "", 2, false)
	x.stands(0, 0, 1)
	x.more("abc", 3, 3, 1)
	x.drop(1)
	x.ends("d\n", "d", 1)

	x = fresh(t, 0)
	x.ends("\n", "", 0)
	x.more("a", 0, 1, 0)
	x.tooLong("\n", 1)
}

// P16.1: lines of fewer bytes than none, or of more than MaxLine, are refused.
func TestNewRefused(t *testing.T) {
	for _, most := range []int{-1, -2, -4096, math.MinInt32, math.MinInt, api.MaxLine + 1, api.MaxLine + 2, 1 << 16, math.MaxInt32, math.MaxInt} {
		if m, e := lines.New(most); m != nil || e != api.ErrInval {
			t.Errorf("New(%d): %v, %v", most, m, e)
		}
	}
}

// P16.1, P16.2: each number that may be: a line of just so many bytes is whole, one of one more is too long.
func TestEveryMost(t *testing.T) {
	for most := range api.MaxLine + 1 {
		x := fresh(t, most)
		line := strings.Repeat("x", most)
		x.ends(line+"\n", line, 0)
		x.tooLong(line+"y\n", 1)
		x.more(line, most, most, 1)
		x.ends("\n", line, 1)
		x.more(line+"y", 0, most+1, 1)
		x.tooLong("\n", 2)
		x.ends("\n", "", 2)
	}
}

// P16.2: what stands behind the first newline is not taken, whatever it is, and no trace of it is left.
func TestBehindTheNewline(t *testing.T) {
	for _, behind := range []string{"\n", "\n\n\n", "a", "ab\n", "abcdefgh", "abcdefgh\n\n"} {
		x := fresh(t, 3)
		x.feed("\n"+behind, "", 1, true)
		x.stands(0, 0, 0)
		x.feed("de\n"+behind, "de", 3, true)
		x.stands(0, 0, 0)
		x.feed("defg\n"+behind, "", 5, false)
		x.stands(0, 0, 1)
		x.more("d", 1, 1, 1)
		x.feed("\n"+behind, "d", 1, true)
		x.stands(0, 0, 1)
		x.ends("ghi\n", "ghi", 1)
	}
}

// P16.2: nothing fed does nothing, at each kind of line under way.
func TestNothingFed(t *testing.T) {
	x := fresh(t, 3)
	nothing := func(held, begun, long int) {
		t.Helper()
		for _, b := range [][]byte{nil, {}, []byte("ab\n")[:0]} {
			if line, n, whole := x.m.Feed(b); line != "" || n != 0 || whole {
				t.Fatalf("%q, %d, %v", line, n, whole)
			}
			x.stands(held, begun, long)
		}
	}
	nothing(0, 0, 0)
	x.more("ab", 2, 2, 0)
	nothing(2, 2, 0)
	x.more("c", 3, 3, 0)
	nothing(3, 3, 0)
	x.ends("\n", "abc", 0)
	nothing(0, 0, 0)
	x.more("abcd", 0, 4, 0)
	nothing(0, 4, 0)
	x.tooLong("\n", 1)
	nothing(0, 0, 1)
	x.drop(1)
	nothing(0, 0, 1)
}

// P16.2: a line may be empty: one behind the other, behind a line, behind one that is too long.
func TestEmptyLines(t *testing.T) {
	for _, most := range []int{0, 1, api.MaxLine} {
		x := fresh(t, most)
		for range 5 {
			x.ends("\n", "", 0)
		}
		x.tooLong(strings.Repeat("a", most+1)+"\n", 1)
		x.ends("\n", "", 1)
		x.more("", 0, 0, 1)
		x.ends("\n", "", 1)
	}
}

// P16.2, P16.3: a line of just most bytes, and one of one more, cut in two at each place, and byte by byte.
func TestAboutMost(t *testing.T) {
	for _, most := range []int{1, 2, 3, 17, 300} {
		x := fresh(t, most)
		line := strings.Repeat("abcdefg", 50)[:most]
		for at := range most + 1 {
			x.more(line[:at], at, at, at)
			x.ends(line[at:]+"\n", line, at)
			x.more(line[:at], at, at, at)
			x.tooLong(line[at:]+"!\n", at+1)
		}
		for i := range line {
			x.more(line[i:i+1], i+1, i+1, most+1)
		}
		x.ends("\n", line, most+1)
		for i := range line {
			x.more(line[i:i+1], i+1, i+1, most+1)
		}
		x.more("!", 0, most+1, most+1)
		x.tooLong("\n", most+2)
	}
}

// P16.2, P16.3: a line grows too long over several pieces and goes on; nothing of it is held from then on, and it counts once, at its newline.
func TestGrowsTooLong(t *testing.T) {
	x := fresh(t, 4)
	x.more("ab", 2, 2, 0)
	x.more("cd", 4, 4, 0)
	x.more("e", 0, 5, 0)
	for begun := 6; begun < 300; begun++ {
		x.more("f", 0, begun, 0)
	}
	x.more(strings.Repeat("g", 9000), 0, 9299, 0)
	x.tooLong("h\n", 1)
	x.ends("ijkl\n", "ijkl", 1)
	x.more("abc", 3, 3, 1)
	x.more("de", 0, 5, 1)
	x.tooLong("\n", 2)
	x.more("a", 1, 1, 2)
	x.tooLong("bcde\n", 3)
	x.ends("m\n", "m", 3)
}

// P16.3: Long counts each line that was too long, also when whole ones come between.
func TestLong(t *testing.T) {
	x := fresh(t, 2)
	for i := range 1000 {
		x.ends("ab\n", "ab", i)
		x.more("abc", 0, 3, i)
		x.tooLong("\n", i+1)
	}
}

// P16.4: Drop, with a line under way, with one that is too long, with none, and twice; what was dropped neither comes back nor counts.
func TestDrop(t *testing.T) {
	x := fresh(t, 3)
	x.drop(0)
	x.ends("abc\n", "abc", 0)
	x.drop(0)
	x.more("ab", 2, 2, 0)
	x.drop(0)
	x.drop(0)
	x.ends("\n", "", 0)
	x.more("abc", 3, 3, 0)
	x.drop(0)
	x.more("def", 3, 3, 0)
	x.ends("\n", "def", 0)
	x.more("abcdefgh", 0, 8, 0)
	x.drop(0)
	x.ends("\n", "", 0)
	x.more("abcdefgh", 0, 8, 0)
	x.drop(0)
	x.ends("ijk\n", "ijk", 0)
	x.tooLong("abcd\n", 1)
	x.drop(1)
	x.tooLong("efgh\n", 2)
	x.more("ab", 2, 2, 2)
	x.drop(2)
	x.more("abcd", 0, 4, 2)
	x.drop(2)
	x.drop(2)
	x.ends("z\n", "z", 2)
}

// P16.2: every byte but the newline is a byte of a line.
func TestEveryByte(t *testing.T) {
	x := fresh(t, 255)
	var all []byte
	for c := range 256 {
		if c != 10 {
			x.ends(string([]byte{byte(c), '\n'}), string([]byte{byte(c)}), 0)
			all = append(all, byte(c))
			x.more(string(all), len(all), len(all), 0)
			x.drop(0)
		}
	}
	x.ends(string(all)+"\n", string(all), 0)
	x.ends("\r\n", "\r", 0)
	x.ends("\u2028\u0085\n", "\u2028\u0085", 0)
}

// P16.5: two makers, fed by turns, know nothing of one another.
func TestTwoMakers(t *testing.T) {
	a, b := fresh(t, 3), fresh(t, 5)
	a.more("ab", 2, 2, 0)
	b.stands(0, 0, 0)
	b.more("wxyz", 4, 4, 0)
	a.stands(2, 2, 0)
	a.more("cd", 0, 4, 0)
	b.more("v", 5, 5, 0)
	a.tooLong("\n", 1)
	b.stands(5, 5, 0)
	a.more("e", 1, 1, 1)
	b.drop(0)
	a.stands(1, 1, 1)
	b.more("st", 2, 2, 0)
	a.drop(1)
	b.ends("u\n", "stu", 0)
	a.ends("\n", "", 1)
	fresh(t, 3)
	b.tooLong("abcdef\n", 1)
	a.stands(0, 0, 1)
}

// P16.6: what was fed may be written over at once, by the next piece in the same room too.
func TestWrittenOver(t *testing.T) {
	x := fresh(t, 100)
	room := make([]byte, 3, 64)
	for _, piece := range []string{"one", "two", "thr"} {
		copy(room, piece)
		x.m.Feed(room)
	}
	clear(room[:64])
	x.stands(9, 9, 0)
	x.ends("ee\n", "onetwothree", 0)
}

// P16.6: lines that were answered stay as they were, whatever is fed behind them.
func TestAnswersStay(t *testing.T) {
	x := fresh(t, 4)
	var got, want []string
	for _, piece := range []string{"abcd\n", "e\n", "fghi\n", "\n", "jk\n", "lmno\n"} {
		b := []byte(piece)
		line, _, _ := x.m.Feed(b)
		clear(b)
		got, want = append(got, line), append(want, strings.TrimSuffix(piece, "\n"))
		x.more("????", 4, 4, 0)
		x.drop(0)
	}
	if !slices.Equal(got, want) {
		t.Fatalf("%q, want %q", got, want)
	}
}
