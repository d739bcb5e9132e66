package past

import (
	"bytes"
	"iter"
	"strings"
)

const newline = '\n'

// text is the bytes of a generation, as far as they were shown.
type text []byte

// whole gives the whole lines with their places, rising; a line is a cut of the text.
func (t text) whole() iter.Seq2[int, []byte] {
	return func(yield func(int, []byte) bool) {
		for place := 0; ; {
			size := bytes.IndexByte(t[place:], newline)
			if size < 0 || !yield(place, t[place:place+size]) {
				return
			}
			place += size + 1
		}
	}
}

// stands tells whether a line is a whole one at a place. It asks there alone: to go through all lines would cost the whole text for each one that is asked.
func (t text) stands(place int, line string) bool {
	if !t.begins(place) || strings.IndexByte(line, newline) >= 0 {
		return false
	}
	rest := t[place:]
	return len(rest) > len(line) && rest[len(line)] == newline && string(rest[:len(line)]) == line
}

// begins tells whether a line begins at a place of the text, or right behind its end.
func (t text) begins(place int) bool {
	return place == 0 || place > 0 && place <= len(t) && t[place-1] == newline
}
