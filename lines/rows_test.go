package lines_test

import (
	"fmt"
	"runtime"
	"slices"
	"strings"
	"sync"
	"testing"
	"time"

	"heron/lines"
)

// shortPiece is one of the 15 rows of at most 3 bytes that are a newline each, or a letter that tells where in which step it stood.
func shortPiece(kind, step int) []byte {
	size := 0
	for kind >= 1<<size {
		kind -= 1 << size
		size++
	}
	b := make([]byte, size)
	for i := range b {
		b[i] = byte('a' + 3*step + i)
		if kind>>i&1 == 1 {
			b[i] = '\n'
		}
	}
	return b
}

// P16.1 to P16.4: every row of four calls, each a Drop or a piece of at most three bytes, against the chapter's words done slowly.
func TestShortRows(t *testing.T) {
	const kinds, calls = 16, 4
	for most := range 5 {
		for row := range kinds * kinds * kinds * kinds {
			m, s := maker(fresh(t, most).m), maker(&slowMaker{most: most})
			for step, left := 0, row; step < calls; step, left = step+1, left/kinds {
				do := func(m maker) answer { return fed(m, shortPiece(left%kinds, step)) }
				if left%kinds == kinds-1 {
					do = dropped
				}
				if got, want := do(m), do(s); got != want {
					t.Fatalf("most %d, row %x, call %d: %v, want %v", most, row, step, got, want)
				}
			}
		}
	}
}

// P16.1 to P16.4: long rows of pieces and Drops by chance against the chapter's words done slowly.
func TestRowsByChance(t *testing.T) {
	for seed := range int64(200) {
		c := chance(seed)
		most := []int{0, 1, 2, 9, 100, 4095, 4096}[c.Intn(7)]
		m, s := maker(fresh(t, most).m), maker(&slowMaker{most: most})
		for i, piece := range c.cut(c.text(20, most), most/2+3) {
			for rest := piece; ; {
				got, want := fed(m, []byte(rest)), fed(s, []byte(rest))
				if got != want {
					t.Fatalf("seed %d, piece %d: %.40v, want %.40v", seed, i, got, want)
				}
				if rest = rest[got.taken:]; rest == "" {
					break
				}
			}
			if c.Intn(40) > 0 {
				continue
			}
			if got, want := dropped(m), dropped(s); got != want {
				t.Fatalf("seed %d, Drop behind piece %d: %v, want %v", seed, i, got, want)
			}
		}
	}
}

// byItself feeds pieces one behind the other, what isn't taken of one again ahead of the next; told is the lines.
func byItself(m *lines.Maker, pieces []string) (told []string) {
	for _, piece := range pieces {
		for piece != "" {
			line, taken, whole := m.Feed([]byte(piece))
			if whole {
				told = append(told, line)
			}
			if taken < 1 || taken > len(piece) { // else it would go on for ever, or panic
				return append(told, fmt.Sprint(taken, " bytes taken"))
			}
			piece = piece[taken:]
		}
	}
	return told
}

// withNext feeds pieces one behind the other, what isn't taken of one in one piece with the next.
func withNext(m *lines.Maker, pieces []string) (told []string) {
	rest := ""
	for _, piece := range pieces {
		rest += piece
		line, taken, whole := m.Feed([]byte(rest))
		if whole {
			told = append(told, line)
		}
		rest = rest[min(taken, len(rest)):]
	}
	return append(told, byItself(m, []string{rest})...)
}

// sameLines asks that pieces, fed in both ways, give the lines of their text.
func sameLines(t *testing.T, most int, pieces []string) {
	t.Helper()
	want, long, tail := wholeLines(strings.Join(pieces, ""), most)
	held := len(tail)
	if held > most {
		held = 0
	}
	for _, feed := range []func(*lines.Maker, []string) []string{byItself, withNext} {
		x := fresh(t, most)
		if got := feed(x.m, pieces); !slices.Equal(got, want) {
			t.Fatalf("most %d: %.80q: %.80q, want %.80q", most, pieces, got, want)
		}
		x.stands(held, len(tail), long)
	}
}

// P16.5: every text of up to seven bytes, each a letter or a newline, cut in every way.
func TestCutAnyhow(t *testing.T) {
	for size := range 8 {
		for newlines := range 1 << size {
			text := []byte("abcdefg")[:size]
			for i := range text {
				if newlines>>i&1 == 1 {
					text[i] = '\n'
				}
			}
			for cuts := range 1 << max(size-1, 0) {
				var pieces []string
				from := 0
				for i := 1; i <= size; i++ {
					if i == size || cuts>>(i-1)&1 == 1 {
						pieces, from = append(pieces, string(text[from:i])), i
					}
				}
				for most := range 4 {
					sameLines(t, most, pieces)
				}
			}
		}
	}
}

// P16.5: long texts by chance, the same one cut in several ways.
func TestCutByChance(t *testing.T) {
	for seed := range int64(40) {
		c := chance(1000 + seed)
		most := []int{0, 1, 5, 64, 4096}[c.Intn(5)]
		text := c.text(30, most)
		for _, piece := range []int{1, 2, 7, 100, 4096, 1 << 20} {
			sameLines(t, most, c.cut(text, piece))
		}
	}
}

// P16.5, W5: makers in several goroutines at once, each its own, tell what they tell alone.
func TestMakersAtOnce(t *testing.T) {
	var all sync.WaitGroup
	for i := range 8 {
		all.Go(func() {
			c := chance(int64(i))
			most := 10 * i
			text := c.text(200, most)
			want, long, tail := wholeLines(text, most)
			m, _ := lines.New(most)
			if got := byItself(m, c.cut(text, 20)); !slices.Equal(got, want) || m.Long() != long || m.Begun() != len(tail) {
				t.Errorf("maker %d: %.80q, %d, %d, want %.80q, %d, %d", i, got, m.Long(), m.Begun(), want, long, len(tail))
			}
		})
	}
	all.Wait()
}

// allotted is how many bytes of memory a call asks for.
func allotted(do func()) uint64 {
	var ahead, behind runtime.MemStats
	runtime.ReadMemStats(&ahead)
	do()
	runtime.ReadMemStats(&behind)
	return behind.TotalAlloc - ahead.TotalAlloc
}

// P16.3, P0.5: of a line that is too long nothing is laid by, however long it goes on and in whatever pieces it comes.
func TestNothingOfLongLines(t *testing.T) {
	const size = 1 << 24
	great := []byte(strings.Repeat("x", size))
	for _, piece := range []int{1, 100, 4096, 4097, size} {
		x := fresh(t, 4096)
		got := allotted(func() {
			for rest := great; len(rest) > 0; {
				n := min(piece, len(rest))
				x.m.Feed(rest[:n])
				rest = rest[n:]
			}
		})
		if got > size/16 {
			t.Errorf("pieces of %d bytes: %d bytes were allotted", piece, got)
		}
		x.stands(0, size, 0)
		x.tooLong("\n", 1)
	}
}

// P16.6: many bytes one by one, many lines in one piece: all ends soon.
func TestMany(t *testing.T) {
	done := make(chan string)
	go func() { done <- manyLines() }()
	select {
	case fault := <-done:
		if fault != "" {
			t.Fatal(fault)
		}
	case <-time.After(60 * time.Second):
		t.Fatal("it doesn't end soon")
	}
}

// manyLines tells what is wrong with a maker that is fed much.
func manyLines() string {
	const size = 4096
	m, _ := lines.New(size)
	line := strings.Repeat("y", size)
	letters := append(strings.Split(line, ""), "\n")
	for i := range 1000 {
		if told := byItself(m, letters); !slices.Equal(told, []string{line}) {
			return fmt.Sprintf("line %d, byte by byte: %.80q", i, told)
		}
	}
	rest := []byte(strings.Repeat(line+"\n", 1000))
	for i := range 1000 {
		told, taken, _ := m.Feed(rest)
		if told != line {
			return fmt.Sprintf("line %d of one piece: %.80q", i, told)
		}
		rest = rest[taken:]
	}
	if m.Held() != 0 || m.Begun() != 0 || m.Long() != 0 {
		return fmt.Sprintln("left:", m.Held(), m.Begun(), m.Long())
	}
	return ""
}
