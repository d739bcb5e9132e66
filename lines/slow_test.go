package lines_test

import (
	"math/rand"
	"strings"

	"heron/lines"
)

// What the tests hold the package against: the chapter's words in another way, slow and plain.

// slowMaker keeps the whole line under way, however long that is, and works each answer out of it.
type slowMaker struct {
	most  int
	under string
	long  int
}

// Feed is P16.2.
func (s *slowMaker) Feed(b []byte) (string, int, bool) {
	ahead, _, ended := strings.Cut(string(b), "\n")
	s.under += ahead
	if !ended {
		return "", len(b), false
	}
	line := s.under
	s.under = ""
	if len(line) > s.most {
		s.long++
		return "", len(ahead) + 1, false
	}
	return line, len(ahead) + 1, true
}

// Held is P16.3.
func (s *slowMaker) Held() int {
	if len(s.under) > s.most {
		return 0
	}
	return len(s.under)
}

// Begun is P16.3.
func (s *slowMaker) Begun() int { return len(s.under) }

// Long is P16.3.
func (s *slowMaker) Long() int { return s.long }

// Drop is P16.4.
func (s *slowMaker) Drop() { s.under = "" }

// maker is what a maker can do, and the slow one too.
type maker interface {
	Feed(b []byte) (string, int, bool)
	Held() int
	Begun() int
	Long() int
	Drop()
}

var _ = []maker{(*lines.Maker)(nil), (*slowMaker)(nil)}

// answer is what one Feed answers, and how the maker stands behind it.
type answer struct {
	line              string
	taken             int
	whole             bool
	held, begun, long int
}

// fed is the answer of a maker that is fed.
func fed(m maker, b []byte) answer {
	line, taken, whole := m.Feed(b)
	return answer{line, taken, whole, m.Held(), m.Begun(), m.Long()}
}

// dropped is how a maker stands behind a Drop.
func dropped(m maker) answer {
	m.Drop()
	return answer{held: m.Held(), begun: m.Begun(), long: m.Long()}
}

// wholeLines is the lines of a text cut at its newlines: those of at most so many bytes, how many are longer, and what stands behind the last newline.
func wholeLines(text string, most int) (list []string, long int, tail string) {
	for _, piece := range strings.SplitAfter(text, "\n") {
		line, whole := strings.CutSuffix(piece, "\n")
		switch {
		case !whole:
			tail = piece
		case len(line) > most:
			long++
		default:
			list = append(list, line)
		}
	}
	return list, long, tail
}

// chooser chooses by chance.
type chooser struct{ *rand.Rand }

// chance is one that always chooses alike.
func chance(seed int64) chooser { return chooser{rand.New(rand.NewSource(seed))} }

// text is lines by chance, about so many bytes long or of none or twice as long, the last one without a newline.
func (c chooser) text(count, most int) string {
	var b strings.Builder
	for range count {
		for range []int{0, c.Intn(most + 1), most, most + 1, most + c.Intn(most+2)}[c.Intn(5)] {
			b.WriteByte("ab\r\x00\xff\v "[c.Intn(7)])
		}
		b.WriteByte('\n')
	}
	b.WriteString(strings.Repeat("z", c.Intn(most+2)))
	return b.String()
}

// cut is a text in pieces by chance, of at most so many bytes each; some have none.
func (c chooser) cut(text string, most int) []string {
	var pieces []string
	for len(text) > 0 {
		n := min(c.Intn(most+1), len(text))
		pieces, text = append(pieces, text[:n]), text[n:]
	}
	return pieces
}
