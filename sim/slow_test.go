package sim_test

import (
	"math/rand"

	"heron/api"
)

// What the tests hold the package against: the chapter's words in another way, slow and plain.

// moment is what a walk tells at a place of a line.
type moment struct {
	states     []int
	rules, end uint32
}

// slowHas tells whether a byte is in a Set.
func slowHas(a api.Set, b byte) bool {
	words := []uint64{a[0], a[1], a[2], a[3]}
	return words[int(b)/64]&(uint64(1)<<(int(b)%64)) != 0
}

// slowMore is some states and all that are come to from them by an edge of some kinds: every edge is asked again and again, till none leads to anything new.
func slowMore(m api.NFA, in map[int]bool, kinds string) map[int]bool {
	more := map[int]bool{}
	for s := range in {
		more[s] = true
	}
	for {
		before := len(more)
		for _, e := range m.Edges {
			for _, kind := range kinds {
				if e.Kind == int(kind-'0') && more[e.From] {
					more[e.To] = true
				}
			}
		}
		if len(more) == before {
			return more
		}
	}
}

// slowRules is the rules of some states.
func slowRules(m api.NFA, in map[int]bool) uint32 {
	met := uint32(0)
	for s := range in {
		met |= m.Rules[s]
	}
	return met
}

// slowMoments is each moment of a walk over a line, the beginning first.
func slowMoments(m api.NFA, line string) []moment {
	var all []moment
	met := uint32(0)
	tell := func(in map[int]bool, kinds string) {
		at := moment{}
		for s := 0; s < m.States; s++ {
			if in[s] {
				at.states = append(at.states, s)
			}
		}
		met |= slowRules(m, in)
		at.rules = met
		at.end = met | slowRules(m, slowMore(m, in, kinds))
		all = append(all, at)
	}
	in := slowMore(m, map[int]bool{0: true}, "13")
	tell(in, "143")
	for i := 0; i < len(line); i++ {
		next := map[int]bool{0: true}
		for _, e := range m.Edges {
			if e.Kind == 2 && in[e.From] && slowHas(e.Set, line[i]) {
				next[e.To] = true
			}
		}
		in = slowMore(m, next, "1")
		tell(in, "14")
	}
	return all
}

// slowEnds is the places of a line (bits, the place 0 lowest) to which a tree takes it from one of some places: what is taken is tried out, time by time.
func slowEnds(t api.Node, line string, from uint64) uint64 {
	switch t.Kind {
	case api.NodeBegin:
		return from & 1
	case api.NodeEnd:
		return from & (1 << len(line))
	case api.NodeSet:
		to := uint64(0)
		for i := range len(line) {
			if from>>i&1 == 1 && slowHas(t.Set, line[i]) {
				to |= 2 << i
			}
		}
		return to
	case api.NodeSeq:
		for _, sub := range t.Subs {
			from = slowEnds(sub, line, from)
		}
		return from
	case api.NodeAlt:
		to := uint64(0)
		for _, sub := range t.Subs {
			to |= slowEnds(sub, line, from)
		}
		return to
	case api.NodeTimes:
		to := uint64(0)
		for n := 0; ; n++ {
			before := to
			if n >= t.Min {
				to |= from
			}
			if n == t.Max || n > t.Min && to == before { // nothing new comes any more
				return to
			}
			from = slowEnds(t.Subs[0], line, from)
		}
	}
	return from
}

// slowSearch tells whether a tree takes some piece of a line.
func slowSearch(t api.Node, line string) bool { return slowEnds(t, line, 2<<len(line)-1) != 0 }

// chooser makes trees, lines and machines by chance.
type chooser struct{ *rand.Rand }

func chance(seed int64) chooser { return chooser{rand.New(rand.NewSource(seed))} }

// leaf is a tree without Subs; those with a byte come often.
func (c chooser) leaf() api.Node {
	switch c.Intn(16) {
	case 0, 1:
		return api.Node{Kind: api.NodeEmpty}
	case 2, 3, 4:
		return api.Node{Kind: api.NodeBegin}
	case 5, 6, 7:
		return api.Node{Kind: api.NodeEnd}
	case 8:
		return api.Node{Kind: api.NodeSet}
	}
	return api.Node{Kind: api.NodeSet, Set: bytesOf([]string{"a", "a", "b", "b", "ab", "x\x00\xff"}[c.Intn(6)])}
}

// tree is any tree of at most a depth.
func (c chooser) tree(depth int) api.Node {
	kind := c.Intn(8)
	if depth == 1 || kind < 1 {
		return c.leaf()
	}
	if kind < 4 {
		counts := [][2]int{{0, -1}, {1, -1}, {0, 1}, {0, 0}, {1, 1}, {2, 2}, {2, -1}, {0, 2}, {1, 3}, {2, 3}, {0, 3}, {3, -1}}[c.Intn(12)]
		return api.Node{Kind: api.NodeTimes, Subs: []api.Node{c.tree(depth - 1)}, Min: counts[0], Max: counts[1]}
	}
	var subs []api.Node
	for range 2 + c.Intn(3) {
		subs = append(subs, c.tree(depth-1))
	}
	if kind < 6 {
		return api.Node{Kind: api.NodeSeq, Subs: subs}
	}
	return api.Node{Kind: api.NodeAlt, Subs: subs}
}

// line is any line of at most so many bytes out of a few.
func (c chooser) line(most int) string {
	var b []byte
	for range c.Intn(most + 1) {
		b = append(b, "aaaaaabbbbbx\n\x00\xff"[c.Intn(15)])
	}
	return string(b)
}

// machine is any machine of so many states that fits, also such as no tree has, with so many edges at most.
func (c chooser) machine(states, edges int) api.NFA {
	m := api.NFA{States: states}
	for range states {
		m.Rules = append(m.Rules, []uint32{0, 0, 0, 1, 2, 4, 9, 1 << 31}[c.Intn(8)])
	}
	for range c.Intn(edges + 1) {
		e := api.Edge{Kind: []int{1, 1, 2, 2, 2, 2, 3, 3, 4, 4}[c.Intn(10)], From: c.Intn(states), To: c.Intn(states)}
		if e.Kind == api.EdgeByte {
			e.Set = []api.Set{bytesOf("a"), bytesOf("a"), bytesOf("b"), bytesOf("b\n"), bytesBut("a"), bytesBut(""), bytesOf(""), bytesOf("\x00"), bytesOf("\xff")}[c.Intn(9)]
		}
		m.Edges = append(m.Edges, e)
	}
	return m
}
