package deriv_test

import (
	"math/big"
	"math/rand"
	"slices"

	"heron/api"
)

// What the tests hold the package against: the chapters' words in other ways, slow and plain.

// slowHas tells whether a byte is in a Set.
func slowHas(a api.Set, b byte) bool { return a[b/64]&(1<<(b%64)) != 0 }

// slowTree tells whether a node is a tree, by chapter 4's words.
func slowTree(t api.Node) bool {
	for _, sub := range t.Subs {
		if !slowTree(sub) {
			return false
		}
	}
	rest := t
	rest.Kind, rest.Subs = 0, nil
	bare := same(rest, api.Node{})
	switch t.Kind {
	case api.NodeEmpty, api.NodeBegin, api.NodeEnd:
		return bare && len(t.Subs) == 0
	case api.NodeSet:
		rest.Set = api.Set{}
		return same(rest, api.Node{}) && len(t.Subs) == 0 && !slowHas(t.Set, '\n')
	case api.NodeSeq, api.NodeAlt:
		return bare && len(t.Subs) > 1
	case api.NodeTimes:
		ends := t.Max == -1 || t.Max >= t.Min && t.Max <= 255
		return t.Set == api.Set{} && len(t.Subs) == 1 && t.Min >= 0 && t.Min <= 255 && ends
	}
	return false
}

// slowDepth is a tree's depth.
func slowDepth(t api.Node) int {
	most := 0
	for _, sub := range t.Subs {
		most = max(most, slowDepth(sub))
	}
	return most + 1
}

// slowPlaces is a tree's places as whole numbers, however great.
func slowPlaces(t api.Node) *big.Int {
	sum := new(big.Int)
	for _, sub := range t.Subs {
		sum.Add(sum, slowPlaces(sub))
	}
	num := func(n int) *big.Int { return big.NewInt(int64(n)) }
	switch t.Kind {
	case api.NodeSet, api.NodeBegin, api.NodeEnd:
		return num(1)
	case api.NodeAlt:
		return sum.Add(sum, num(len(t.Subs)+1))
	case api.NodeTimes:
		all := new(big.Int).Mul(sum, num(t.Min))
		switch {
		case sum.Sign() == 0:
		case t.Max == -1:
			all.Add(all, sum).Add(all, num(2))
		case t.Max > t.Min:
			all.Add(all, new(big.Int).Mul(sum, num(t.Max-t.Min))).Add(all, num(1))
		}
		return all
	}
	return sum
}

// slowFits tells whether a tree has at most MaxPlaces places, its machine's beginning being one.
func slowFits(t api.Node) bool { return slowPlaces(t).Cmp(big.NewInt(2047)) <= 0 }

// slowRight tells whether a node is a right tree.
func slowRight(t api.Node) bool { return slowTree(t) && slowDepth(t) <= 256 && slowFits(t) }

// slowSeq makes a row of plainest trees plain, rule by rule.
func slowSeq(subs []api.Node) api.Node {
	var flat, full, row []api.Node
	for _, sub := range subs {
		if sub.Kind == api.NodeSeq {
			flat = append(flat, sub.Subs...)
		} else {
			flat = append(flat, sub)
		}
	}
	for _, sub := range flat {
		if sub.Kind != api.NodeEmpty {
			full = append(full, sub)
		}
	}
	for i, sub := range full {
		if i > 0 && full[i-1].Kind == sub.Kind && (sub.Kind == api.NodeBegin || sub.Kind == api.NodeEnd) {
			continue
		}
		row = append(row, sub)
	}
	for _, sub := range row {
		if same(sub, nothing()) {
			return nothing()
		}
	}
	if len(row) == 0 {
		return empty()
	}
	if len(row) == 1 {
		return row[0]
	}
	return seq(row...)
}

// slowAlt makes plainest trees' alternatives plain, rule by rule.
func slowAlt(subs []api.Node) api.Node {
	var flat, full, merged, row []api.Node
	for _, sub := range subs {
		if sub.Kind == api.NodeAlt {
			flat = append(flat, sub.Subs...)
		} else {
			flat = append(flat, sub)
		}
	}
	for _, sub := range flat {
		if !same(sub, nothing()) {
			full = append(full, sub)
		}
	}
	first := -1
	for _, sub := range full {
		if sub.Kind == api.NodeSet && first >= 0 {
			for i := range 4 {
				merged[first].Set[i] |= sub.Set[i]
			}
			continue
		}
		if sub.Kind == api.NodeSet {
			first = len(merged)
		}
		merged = append(merged, sub)
	}
	for _, sub := range merged {
		if !slices.ContainsFunc(row, func(other api.Node) bool { return same(other, sub) }) {
			row = append(row, sub)
		}
	}
	if len(row) == 0 {
		return nothing()
	}
	if len(row) == 1 {
		return row[0]
	}
	return alt(row...)
}

// slowPlain is a tree's plainest tree, however great the tree is.
func slowPlain(t api.Node) api.Node {
	var subs []api.Node
	for _, sub := range t.Subs {
		subs = append(subs, slowPlain(sub))
	}
	switch t.Kind {
	case api.NodeSeq:
		return slowSeq(subs)
	case api.NodeAlt:
		return slowAlt(subs)
	case api.NodeTimes:
		x := subs[0]
		if t.Max == 0 || x.Kind == api.NodeEmpty {
			return empty()
		}
		if same(x, nothing()) {
			if t.Min == 0 {
				return empty()
			}
			return nothing()
		}
		if x.Kind == api.NodeBegin || x.Kind == api.NodeEnd {
			if t.Min == 0 {
				return empty()
			}
			return x
		}
		if t.Min == 1 && t.Max == 1 {
			return x
		}
		if x.Kind == api.NodeTimes && x.Min == 0 && x.Max == -1 {
			return x
		}
		return times(x, t.Min, t.Max)
	}
	return t
}

// slowLate is a tree with nothing in the place of each NodeBegin.
func slowLate(t api.Node) api.Node {
	if t.Kind == api.NodeBegin {
		return nothing()
	}
	t.Subs = slowLates(t.Subs)
	return t
}

func slowLates(list []api.Node) []api.Node {
	var all []api.Node
	for _, t := range list {
		all = append(all, slowLate(t))
	}
	return all
}

// slowPasses tells whether a tree is passed at a place that is, or isn't, the line's beginning: a line is tried out that has such a place ahead of its end.
func slowPasses(t api.Node, begin bool) bool {
	if begin {
		return slowEnds(t, "x", 1)&1 != 0
	}
	return slowEnds(t, "xx", 2)&2 != 0
}

// slowRest is a tree's rest as the chapter lays it, nothing made plain.
func slowRest(t api.Node, b byte, begin bool) api.Node {
	switch t.Kind {
	case api.NodeSet:
		if slowHas(t.Set, b) {
			return empty()
		}
	case api.NodeAlt:
		var rests []api.Node
		for _, sub := range t.Subs {
			rests = append(rests, slowRest(sub, b, begin))
		}
		return alt(rests...)
	case api.NodeSeq:
		var rows []api.Node
		for i, sub := range t.Subs {
			row := append([]api.Node{slowRest(sub, b, begin)}, slowLates(t.Subs[i+1:])...)
			if len(row) == 1 {
				rows = append(rows, row[0])
			} else {
				rows = append(rows, seq(row...))
			}
			if !slowPasses(sub, begin) {
				break
			}
		}
		if len(rows) == 1 {
			return rows[0]
		}
		return alt(rows...)
	case api.NodeTimes:
		if t.Max == 0 {
			return nothing()
		}
		least, most := t.Min-1, t.Max-1
		if t.Min == 0 || slowPasses(t.Subs[0], begin) {
			least = 0
		}
		if t.Max == -1 {
			most = -1
		}
		return seq(slowRest(t.Subs[0], b, begin), slowLate(times(t.Subs[0], least, most)))
	}
	return nothing()
}

// slowStep is what Step is to answer.
func slowStep(t api.Node, b byte, begin bool) (api.Node, api.Errno) {
	if !slowRight(t) {
		return api.Node{}, 50
	}
	rest := slowPlain(slowRest(t, b, begin))
	if slowDepth(rest) > 256 {
		return api.Node{}, 47
	}
	if !slowFits(rest) {
		return api.Node{}, 48
	}
	return rest, 0
}

// slowEnds is the places of a line (bits, the place 0 lowest) to which a tree takes it from one of some places: what is taken is tried out, time by time.
func slowEnds(t api.Node, line string, from uint64) uint64 {
	switch t.Kind {
	case api.NodeBegin:
		return from & 1
	case api.NodeEnd:
		return from & (1 << len(line))
	case api.NodeSet:
		to := uint64(0)
		for i := range len(line) {
			if from>>i&1 == 1 && slowHas(t.Set, line[i]) {
				to |= 2 << i
			}
		}
		return to
	case api.NodeSeq:
		for _, sub := range t.Subs {
			from = slowEnds(sub, line, from)
		}
		return from
	case api.NodeAlt:
		to := uint64(0)
		for _, sub := range t.Subs {
			to |= slowEnds(sub, line, from)
		}
		return to
	case api.NodeTimes:
		to := uint64(0)
		for n := 0; ; n++ {
			before := to
			if n >= t.Min {
				to |= from
			}
			if n == t.Max || n > t.Min && to == before { // nothing new comes any more
				return to
			}
			from = slowEnds(t.Subs[0], line, from)
		}
	}
	return from
}

// slowWhole tells whether a tree takes a line from its beginning to its end.
func slowWhole(t api.Node, line string) bool { return slowEnds(t, line, 1)>>len(line)&1 == 1 }

// slowSearch tells whether it takes some piece of it.
func slowSearch(t api.Node, line string) bool { return slowEnds(t, line, 2<<len(line)-1) != 0 }

// chooser makes trees by chance.
type chooser struct{ *rand.Rand }

// one is one of some numbers.
func (c chooser) one(of ...int) int { return of[c.Intn(len(of))] }

// leaf is a tree without Subs; those with a byte come often.
func (c chooser) leaf() api.Node {
	switch c.Intn(16) {
	case 0, 1:
		return empty()
	case 2, 3:
		return begin()
	case 4, 5:
		return end()
	case 6:
		return nothing()
	case 7:
		return but("")
	case 8:
		return but("a")
	}
	return set([]string{"a", "a", "a", "b", "b", "ab", "x"}[c.Intn(7)])
}

// tree is any tree of at most a depth.
func (c chooser) tree(depth int) api.Node {
	kind := c.Intn(8)
	if depth == 1 || kind < 1 {
		return c.leaf()
	}
	if kind < 3 {
		counts := [][2]int{{0, -1}, {1, -1}, {0, 1}, {0, 0}, {1, 1}, {2, 2}, {2, -1}, {0, 2}, {1, 3}, {2, 3}, {0, 3}, {3, -1}}[c.Intn(12)]
		return times(c.tree(depth-1), counts[0], counts[1])
	}
	var subs []api.Node
	for range 2 + c.one(0, 0, 1, 1, 2, 3) {
		subs = append(subs, c.tree(depth-1))
	}
	if kind < 6 {
		return seq(subs...)
	}
	return alt(subs...)
}

// line is any line of at most so many bytes out of a few; some have a newline.
func (c chooser) line(most int) string {
	var b []byte
	for range c.Intn(most + 1) {
		b = append(b, "aaaaabbbbxy\n"[c.Intn(12)])
	}
	return string(b)
}

// spoil is a tree with one node changed, which may or may not leave it a tree.
func (c chooser) spoil(t api.Node) api.Node {
	if len(t.Subs) > 0 && c.Intn(4) > 0 {
		subs := append([]api.Node(nil), t.Subs...)
		i := c.Intn(len(subs))
		subs[i] = c.spoil(subs[i])
		t.Subs = subs
		return t
	}
	switch c.Intn(6) {
	case 0:
		t.Kind = c.one(-1, 0, 1, 2, 3, 4, 5, 6, 7, 8, 1<<40)
	case 1:
		t.Min = c.one(-1, 0, 1, 2, 255, 256, -1<<63)
	case 2:
		t.Max = c.one(-2, -1, 0, 1, 2, 255, 256, 1<<62)
	case 3:
		t.Set[c.Intn(4)] ^= 1 << c.one(0, 9, 10, 11, 63)
	case 4:
		t.Subs = append([]api.Node{c.leaf()}, t.Subs...)
	case 5:
		t.Subs = t.Subs[:len(t.Subs)/2]
	}
	return t
}
