package least

import (
	"slices"

	"heron/api"
)

// merged is a table that tells what d tells, and in which no two states are alike. All of d's classes are those of some byte.
func merged(d api.DFA) api.DFA {
	p := partsOf(d)
	p.refine(d)
	var stand []int // a state for each that is left
	number := slices.Repeat([]int{-1}, len(p.spans))
	for s, k := range p.of { // from state 0 on, since what it becomes is 0 again
		if number[k] < 0 {
			number[k] = len(stand)
			stand = append(stand, s)
		}
	}
	m := api.DFA{Class: d.Class}
	for _, s := range stand {
		next := make([]int, len(d.Next[s]))
		for c, to := range d.Next[s] {
			next[c] = number[p.of[to]]
		}
		m.Next = append(m.Next, next)
		m.Found = append(m.Found, d.Found[s])
		m.Ends = append(m.Ends, d.Ends[s])
	}
	return m
}

// parts is the states of a table in parts: those that nothing has told apart by then are in one.
type parts struct {
	row   []int  // the states, those of a part one behind the other
	place []int  // of each state in the row
	of    []int  // the part of each state
	spans []span // of each part in the row
}

// span is a part's piece of the row; ahead of cut stand the states of it that are picked.
type span struct{ from, cut, to int }

func (s span) size() int { return s.to - s.from }

// partsOf is the states of a table, those with the same words in one part.
func partsOf(d api.DFA) *parts {
	states := len(d.Next)
	p := &parts{place: make([]int, states), of: make([]int, states)}
	met := map[[2]uint32]int{}
	var lists [][]int
	for s := range states {
		k := numberOf(met, [2]uint32{d.Found[s], d.Ends[s]})
		if k == len(lists) {
			lists = append(lists, nil)
		}
		lists[k] = append(lists[k], s)
		p.of[s] = k
	}
	for _, list := range lists {
		from := len(p.row)
		p.row = append(p.row, list...)
		p.spans = append(p.spans, span{from: from, cut: from, to: len(p.row)})
	}
	for i, s := range p.row {
		p.place[s] = i
	}
	return p
}

// refine splits parts, till the states of each lead by each class to states of one part. A part that is split off has a number behind all others, so it is gone through later on; it is never the greater piece, so a state comes to be gone through again in a part of at most half the size. The piece that keeps its number need not be gone through again, if it was by then: what leads there is told by what leads to both and what to the other.
func (p *parts) refine(d api.DFA) {
	roads := roadsOf(d)
	for k := 0; k < len(p.spans); k++ {
		into := slices.Clone(p.row[p.spans[k].from:p.spans[k].to]) // as it is now: it may be split itself below
		for _, r := range roads {
			for _, part := range p.pickAhead(r, into) {
				p.split(part)
			}
		}
	}
}

// pickAhead picks the states that lead by a road to some others, and is the parts in which they are.
func (p *parts) pickAhead(r road, into []int) []int {
	var touched []int
	for _, to := range into {
		for s := r.first[to]; s >= 0; s = r.next[s] {
			part := p.of[s]
			if at := p.spans[part]; at.cut == at.from {
				touched = append(touched, part)
			}
			p.pick(s)
		}
	}
	return touched
}

// pick moves a state that isn't picked ahead of its part's cut.
func (p *parts) pick(s int) {
	at := &p.spans[p.of[s]]
	other := p.row[at.cut]
	p.row[p.place[s]], p.place[other] = other, p.place[s]
	p.row[at.cut], p.place[s] = s, at.cut
	at.cut++
}

// split puts the smaller one of what is picked of a part and what isn't into a part of its own; then nothing is picked.
func (p *parts) split(part int) {
	at := p.spans[part]
	stay := span{from: at.from, cut: at.from, to: at.cut}
	leave := span{from: at.cut, cut: at.cut, to: at.to}
	if stay.size() < leave.size() {
		stay, leave = leave, stay
	}
	p.spans[part] = stay
	if leave.size() == 0 {
		return
	}
	for _, s := range p.row[leave.from:leave.to] {
		p.of[s] = len(p.spans)
	}
	p.spans = append(p.spans, leave)
}

// road is a class gone backwards: the states that lead by it to a state are first of that one, then next of each, up to -1.
type road struct{ first, next []int }

// roadsOf is those of a table's classes.
func roadsOf(d api.DFA) []road {
	states := len(d.Next)
	roads := make([]road, len(d.Next[0]))
	for c := range roads {
		r := road{first: slices.Repeat([]int{-1}, states), next: make([]int, states)}
		for s, next := range d.Next {
			r.next[s] = r.first[next[c]]
			r.first[next[c]] = s
		}
		roads[c] = r
	}
	return roads
}
