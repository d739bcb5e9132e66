package deriv

import (
	"slices"

	"heron/api"
	"heron/octets"
)

// step is a byte at a place, with the trees that it leads to.
type step struct {
	*keep
	b     byte
	begin bool // whether the place is the line's beginning
}

// sight is what a tree is at a step.
type sight struct {
	late, rest int
	passed     bool
}

// see goes through a tree once, Subs first, so that a row's ends are made once, and not for each node that it stands in.
func (s step) see(t api.Node) sight {
	switch t.Kind {
	case api.NodeBegin:
		return sight{nothing, nothing, s.begin}
	case api.NodeSet:
		return sight{s.leaf(t), s.behind(t.Set), false}
	case api.NodeSeq:
		return s.inRow(s.seeAll(t.Subs))
	case api.NodeAlt:
		return s.oneOf(s.seeAll(t.Subs))
	case api.NodeTimes:
		if t.Max == 0 { // its Sub is never come to, and isn't bounded by the tree's places
			return sight{empty, nothing, true}
		}
		return s.again(s.see(t.Subs[0]), t.Min, t.Max)
	}
	return sight{s.leaf(t), nothing, t.Kind == api.NodeEmpty}
}

func (s step) seeAll(list []api.Node) []sight {
	all := make([]sight, len(list))
	for i, t := range list {
		all[i] = s.see(t)
	}
	return all
}

// behind is the rest of a Set.
func (s step) behind(a api.Set) int {
	if octets.Has(a, s.b) {
		return empty
	}
	return nothing
}

// inRow is the sight of a NodeSeq.
func (s step) inRow(subs []sight) sight {
	first := slices.IndexFunc(subs, func(sub sight) bool { return !sub.passed })
	all := sight{late: empty, passed: first < 0}
	var rests []int
	for i, sub := range slices.Backward(subs) {
		if all.passed || i <= first {
			rests = append(rests, s.seq(sub.rest, all.late))
		}
		all.late = s.seq(sub.late, all.late)
	}
	slices.Reverse(rests) // they were met from the row's end on
	all.rest = s.alt(rests)
	return all
}

// oneOf is the sight of a NodeAlt.
func (s step) oneOf(subs []sight) sight {
	var all sight
	var lates, rests []int
	for _, sub := range subs {
		lates = append(lates, sub.late)
		rests = append(rests, sub.rest)
		all.passed = all.passed || sub.passed
	}
	all.late, all.rest = s.alt(lates), s.alt(rests)
	return all
}

// again is the sight of a NodeTimes that may come at least once.
func (s step) again(sub sight, least, most int) sight {
	further := oneLess(least)
	if sub.passed { // all times that must be may be empty ones, ahead of the byte
		further = 0
	}
	return sight{
		late:   s.times(sub.late, least, most),
		rest:   s.seq(sub.rest, s.times(sub.late, further, oneLess(most))),
		passed: least == 0 || sub.passed,
	}
}

// oneLess is a count of times behind one of them: what is none or without an end stays so.
func oneLess(count int) int {
	if count > 0 {
		return count - 1
	}
	return count
}
