package least

import "slices"

const newline = 10 // no line has it

// pair is a state of each of two tables, to which one and the same line leads.
type pair struct {
	a, b int
	from int  // the pair ahead of it, by its place in the row
	by   byte // that led from there
}

// lineTo is the line that leads to a pair of a row, whose first pair is that of the empty line.
func lineTo(row []pair, at int) string {
	var line []byte
	for ; at > 0; at = row[at].from {
		line = append(line, row[at].by)
	}
	slices.Reverse(line)
	return string(line)
}

// standing is bytes of lines, one for all those that neither of two tables tells apart.
func standing(a, b [256]int) []byte {
	var list []byte
	met := map[[2]int]int{}
	for by := range len(a) {
		if by != newline && numberOf(met, [2]int{a[by], b[by]}) == len(list) {
			list = append(list, byte(by))
		}
	}
	return list
}

// grouping is things in groups. A pair whose two states are in one group by the pairs ahead of it need not be gone through: a line that tells its states apart tells those of one of these pairs apart too, which is no further from the beginning. So there are fewer pairs than states, and the line is a shortest one all the same.
type grouping struct {
	up   []int // another one of its group, nearer to the group's head; the head's is itself
	size []int // of the group of each head
}

// newGrouping is so many things, each in a group of its own.
func newGrouping(things int) *grouping {
	g := &grouping{up: make([]int, things), size: make([]int, things)}
	for i := range things {
		g.up[i], g.size[i] = i, 1
	}
	return g
}

// head is the one that stands for a thing's group.
func (g *grouping) head(i int) int {
	for g.up[i] != i {
		g.up[i] = g.up[g.up[i]] // the next time the way is shorter
		i = g.up[i]
	}
	return i
}

// join makes the groups of two things one, and tells whether they were two.
func (g *grouping) join(i, k int) bool {
	i, k = g.head(i), g.head(k)
	if i == k {
		return false
	}
	if g.size[i] > g.size[k] { // the smaller one goes below, so that no way is long
		i, k = k, i
	}
	g.up[i] = k
	g.size[k] += g.size[i]
	return true
}
