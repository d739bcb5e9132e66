package scan_test

import (
	"fmt"
	"math/rand"
	"slices"
	"strings"

	"heron/api"
	"heron/ere"
)

// What the tests hold the package against: the chapter's words in another way, slow and plain.

// slowHas tells whether a byte is in a Set.
func slowHas(a api.Set, b byte) bool { return a[b/64]&(1<<(b%64)) != 0 }

// slowEnds is the places of a line at which a piece may end that a tree takes and that begins at one of some places. Place i is ahead of the byte i.
func slowEnds(t api.Node, line string, from []bool) []bool {
	to := make([]bool, len(line)+1)
	switch t.Kind {
	case api.NodeEmpty:
		return from
	case api.NodeBegin:
		to[0] = from[0]
	case api.NodeEnd:
		to[len(line)] = from[len(line)]
	case api.NodeSet:
		for i := range len(line) {
			to[i+1] = from[i] && slowHas(t.Set, line[i])
		}
	case api.NodeSeq:
		to = from
		for _, sub := range t.Subs {
			to = slowEnds(sub, line, to)
		}
	case api.NodeAlt:
		for _, sub := range t.Subs {
			to = either(to, slowEnds(sub, line, from))
		}
	case api.NodeTimes:
		return slowTimes(t, line, from)
	}
	return to
}

// slowTimes is slowEnds of a repeat.
func slowTimes(t api.Node, line string, from []bool) []bool {
	for range t.Min {
		from = slowEnds(t.Subs[0], line, from)
	}
	all := from
	for n := t.Min; n != t.Max; n++ {
		from = slowEnds(t.Subs[0], line, from)
		more := either(all, from)
		if slices.Equal(more, all) && t.Max == -1 { // no place is new, so none will be
			break
		}
		all = more
	}
	return all
}

// either is the places that one of two rows has.
func either(a, b []bool) []bool {
	both := slices.Clone(a)
	for i := range b {
		both[i] = both[i] || b[i]
	}
	return both
}

// slowTakes tells whether a tree takes a piece of a line.
func slowTakes(t api.Node, line string) bool {
	return slices.Contains(slowEnds(t, line, slices.Repeat([]bool{true}, len(line)+1)), true)
}

// slowLine is the rules that a line meets, tree k being rule k's.
func slowLine(trees []api.Node, line string) uint32 {
	met := uint32(0)
	for k, t := range trees {
		if slowTakes(t, line) {
			met |= 1 << k
		}
	}
	return met
}

// set is the tree of one byte of some.
func set(bytes string) api.Node {
	n := api.Node{Kind: api.NodeSet}
	for i := range len(bytes) {
		n.Set[bytes[i]/64] |= 1 << (bytes[i] % 64)
	}
	return n
}

// but is the tree of one byte that is none of some, and no newline.
func but(bytes string) api.Node {
	n := set(bytes + "\n")
	for i := range n.Set {
		n.Set[i] = ^n.Set[i]
	}
	return n
}

// joined is the tree of some, one behind the other or one of them.
func joined(kind int, list []api.Node) api.Node {
	switch {
	case len(list) == 0:
		return api.Node{Kind: api.NodeEmpty}
	case len(list) == 1:
		return list[0]
	}
	return api.Node{Kind: kind, Subs: list}
}

// chooser makes patterns and lines by chance.
type chooser struct{ *rand.Rand }

func chance(seed int64) chooser { return chooser{rand.New(rand.NewSource(seed))} }

// line is any line of at most so many bytes out of a few.
func (c chooser) line(most int) string {
	b := make([]byte, c.Intn(most+1))
	for i := range b {
		b[i] = "aaaaaabbbbbbx\n\x00\xff"[c.Intn(16)]
	}
	return string(b)
}

// pattern is any pattern of few places, and its tree, which no reader has made.
func (c chooser) pattern() (string, api.Node) {
	for {
		if p, t := c.spelt(2); ere.Places(t) <= 60 {
			return p, t
		}
	}
}

// patterns is so many patterns and their trees.
func (c chooser) patterns(n int) ([]string, []api.Node) {
	list, trees := make([]string, n), make([]api.Node, n)
	for k := range list {
		list[k], trees[k] = c.pattern()
	}
	return list, trees
}

func (c chooser) spelt(deep int) (string, api.Node) {
	var texts []string
	var all []api.Node
	for range []int{1, 1, 1, 2, 3}[c.Intn(5)] {
		text := ""
		var pieces []api.Node
		for range c.Intn(4) {
			p, piece := c.piece(deep)
			text += p
			pieces = append(pieces, piece)
		}
		texts = append(texts, text)
		all = append(all, joined(api.NodeSeq, pieces))
	}
	return strings.Join(texts, "|"), joined(api.NodeAlt, all)
}

func (c chooser) piece(deep int) (string, api.Node) {
	switch c.Intn(12) {
	case 0:
		return "^", api.Node{Kind: api.NodeBegin}
	case 1:
		return "$", api.Node{Kind: api.NodeEnd}
	}
	p, t := c.atom(deep)
	times := func(repeat string, least, most int) (string, api.Node) {
		return p + repeat, api.Node{Kind: api.NodeTimes, Subs: []api.Node{t}, Min: least, Max: most}
	}
	switch c.Intn(12) {
	case 0:
		return times("*", 0, -1)
	case 1:
		return times("+", 1, -1)
	case 2:
		return times("?", 0, 1)
	case 3:
		least := c.Intn(4)
		return times(fmt.Sprintf("{%d}", least), least, least)
	case 4:
		least := c.Intn(3)
		return times(fmt.Sprintf("{%d,}", least), least, -1)
	case 5:
		least := c.Intn(3)
		most := least + c.Intn(3)
		return times(fmt.Sprintf("{%d,%d}", least, most), least, most)
	}
	return p, t
}

func (c chooser) atom(deep int) (string, api.Node) {
	if deep > 0 && c.Intn(3) == 0 {
		p, t := c.spelt(deep - 1)
		return "(" + p + ")", t
	}
	switch c.Intn(12) {
	case 0:
		return ".", but("")
	case 1:
		return "[^a]", but("a")
	case 2:
		return "[ab]", set("ab")
	case 3:
		return "[^\x01-\xff]", set("\x00")
	case 4:
		return "[\x00\xff]", set("\x00\xff")
	case 5:
		return "[^\x00-\xff]", set("")
	case 6, 7, 8:
		return "b", set("b")
	}
	return "a", set("a")
}
