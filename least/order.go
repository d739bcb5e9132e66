package least

import (
	"slices"

	"heron/api"
)

// inOrder is what is met of a table that fits, numbered as it is met; classes that lead from each state to the same one are one.
func inOrder(d api.DFA) api.DFA {
	classes := classesMet(d.Class)
	states, number := statesMet(d, classes)
	mark := classMarks(d, states, classes)
	var markOf [256]int // by the class of d
	var stand []int     // a class of d for each mark
	for i, c := range classes {
		markOf[c] = mark[i]
		if mark[i] == len(stand) {
			stand = append(stand, c)
		}
	}
	var o api.DFA
	for b, c := range d.Class {
		o.Class[b] = markOf[c]
	}
	for _, s := range states {
		next := make([]int, len(stand))
		for k, c := range stand {
			next[k] = number[d.Next[s][c]]
		}
		o.Next = append(o.Next, next)
		o.Found = append(o.Found, d.Found[s])
		o.Ends = append(o.Ends, d.Ends[s])
	}
	return o
}

// classesMet is the classes that bytes have, as they are met from byte 0 on.
func classesMet(class [256]int) []int {
	var list []int
	for _, c := range class {
		if !slices.Contains(list, c) {
			list = append(list, c)
		}
	}
	return list
}

// statesMet is the states that are met by some classes, in the order in which they are, and the number of each in that order (-1: it isn't met).
func statesMet(d api.DFA, classes []int) (states, number []int) {
	number = slices.Repeat([]int{-1}, len(d.Next))
	number[0] = 0
	states = []int{0}
	for i := 0; i < len(states); i++ {
		next := d.Next[states[i]]
		for _, c := range classes {
			if to := next[c]; number[to] < 0 {
				number[to] = len(states)
				states = append(states, to)
			}
		}
	}
	return states, number
}

// classMarks is a mark for each of some classes, numbered as they are met: the same one for those that lead from each of some states to the same one.
func classMarks(d api.DFA, states, classes []int) []int {
	mark := make([]int, len(classes))
	count := 1
	for _, s := range states {
		if count == len(classes) { // no further state can tell more of them apart
			break
		}
		met := map[[2]int]int{}
		for i, c := range classes {
			mark[i] = numberOf(met, [2]int{mark[i], d.Next[s][c]})
		}
		count = len(met)
	}
	return mark
}
