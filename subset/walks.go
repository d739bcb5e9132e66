package subset

import (
	"iter"
	"math/bits"
	"slices"

	"heron/api"
	"heron/part"
)

const wordBits = 64 // bytes that one word of a Set tells of

// Kinds of edges that take no byte, as bits: by which of them a walk goes on hangs on where it stands.
const (
	anywhere = 1 << api.EdgeFree
	atBegin  = anywhere | 1<<api.EdgeBegin
	atEnd    = anywhere | 1<<api.EdgeEnd
)

// moment is what a walk tells at a place: the states in which it is, the rules that are met by then, and those that are met if the line ends there.
type moment struct {
	in         row // several moments may have the same one, so it isn't written into any more
	rules, end uint32
}

// text is one that no other moment of the same machine has.
func (m moment) text() string {
	b := make([]byte, 0, len(m.in)+8)
	b = append(b, m.in...)
	for _, word := range [2]uint32{m.rules, m.end} {
		b = append(b, byte(word), byte(word>>8), byte(word>>16), byte(word>>24))
	}
	return string(b)
}

// walks is all walks of one machine, a class of bytes at a time. (A sim.Walk is at one moment alone and can't go back; here each moment is gone on from by every class.)
type walks struct {
	leave   [][]api.Edge      // by the state that they leave
	rules   []uint32          // by the state that meets them
	class   [256]int          // of each byte
	classes int               // how many there are
	stand   api.Set           // one byte of each class, which stands for all of it
	known   map[string]moment // behind a byte with no rule met ahead, by the states to which the byte led: most bytes lead to few of them, again and again
}

// walksOf is those of a machine that fits.
func walksOf(m api.NFA) *walks {
	w := &walks{leave: make([][]api.Edge, m.States), rules: m.Rules, known: map[string]moment{}}
	for _, e := range m.Edges {
		w.leave[e.From] = append(w.leave[e.From], e)
	}
	w.class, w.classes = part.Classes(part.Sets(m)...)
	next := 0
	for b, c := range w.class {
		if c == next { // classes are numbered as they are met
			w.stand[b/wordBits] |= 1 << (b % wordBits)
			next++
		}
	}
	return w
}

// begin is the moment at a line's beginning.
func (w *walks) begin() moment { return w.enter(newRow(len(w.rules)), atBegin) }

// behind is the moment behind a byte that has led to some states, some rules being met ahead of it.
func (w *walks) behind(to row, met uint32) moment {
	text := string(to)
	at, there := w.known[text]
	if !there {
		at = w.enter(to, anywhere)
		if len(w.known) == api.MaxStates { // there may be far more of these rows than moments: what is forgotten is worked out again
			clear(w.known)
		}
		w.known[text] = at
	}
	at.rules |= met
	at.end |= met
	return at
}

// enter is the moment of a walk that comes to some states, no rule being met ahead, where it goes on by edges of some kinds.
func (w *walks) enter(in row, kinds int) moment {
	in.add(0) // a piece may begin at each moment
	w.spread(in, kinds)
	last := slices.Clone(in)
	w.spread(last, kinds|atEnd)
	return moment{in: in, rules: w.rulesOf(in), end: w.rulesOf(last)}
}

// taken is, for each class, the states to which its bytes lead from some states.
func (w *walks) taken(in row) []row {
	to := make([]row, w.classes)
	for c := range to {
		to[c] = newRow(len(w.rules))
	}
	for s := range in.on() {
		for _, e := range w.leave[s] {
			for c := range w.classesIn(e.Set) { // none, if the edge takes no byte
				to[c].add(e.To)
			}
		}
	}
	return to
}

// classesIn gives the classes whose bytes the set of an edge has: it has all bytes of a class or none.
func (w *walks) classesIn(set api.Set) iter.Seq[int] {
	return func(yield func(int) bool) {
		for i, word := range set {
			for word &= w.stand[i]; word != 0; word &= word - 1 { // the lowest bit that is on goes out each time
				if !yield(w.class[i*wordBits+bits.TrailingZeros64(word)]) {
					return
				}
			}
		}
	}
}

// spread adds to some states all that are come to from them by edges of some kinds, as far as that goes.
func (w *walks) spread(in row, kinds int) {
	todo := slices.Collect(in.on())
	for len(todo) > 0 {
		s := todo[len(todo)-1]
		todo = todo[:len(todo)-1]
		for _, e := range w.leave[s] {
			if kinds>>e.Kind&1 == 1 && !in.has(e.To) {
				in.add(e.To)
				todo = append(todo, e.To)
			}
		}
	}
}

// rulesOf is the rules that some states meet.
func (w *walks) rulesOf(in row) uint32 {
	met := uint32(0)
	for s := range in.on() {
		met |= w.rules[s]
	}
	return met
}
