package nfa_test

import (
	"math/big"
	"math/rand"

	"heron/api"
)

// What the tests hold the package against: the chapters' words in other ways, slow and plain.

// slowHas tells whether a byte is in a Set.
func slowHas(a api.Set, b byte) bool { return a[b/64]&(1<<(b%64)) != 0 }

// slowTree tells whether a node is a tree, by chapter 4's words.
func slowTree(t api.Node) bool {
	for _, sub := range t.Subs {
		if !slowTree(sub) {
			return false
		}
	}
	none := t.Set == api.Set{}
	bare := t.Min == 0 && t.Max == 0
	switch t.Kind {
	case api.NodeEmpty, api.NodeBegin, api.NodeEnd:
		return none && bare && len(t.Subs) == 0
	case api.NodeSet:
		return bare && len(t.Subs) == 0 && !slowHas(t.Set, '\n')
	case api.NodeSeq, api.NodeAlt:
		return none && bare && len(t.Subs) > 1
	case api.NodeTimes:
		ends := t.Max == -1 || t.Max >= t.Min && t.Max <= 255
		return none && len(t.Subs) == 1 && t.Min >= 0 && t.Min <= 255 && ends
	}
	return false
}

// slowPlaces is a tree's places as whole numbers, however great.
func slowPlaces(t api.Node) *big.Int {
	sum := new(big.Int)
	for _, sub := range t.Subs {
		sum.Add(sum, slowPlaces(sub))
	}
	num := func(n int) *big.Int { return big.NewInt(int64(n)) }
	switch t.Kind {
	case api.NodeSet, api.NodeBegin, api.NodeEnd:
		return num(1)
	case api.NodeAlt:
		return sum.Add(sum, num(len(t.Subs)+1))
	case api.NodeTimes:
		all := new(big.Int).Mul(sum, num(t.Min))
		switch {
		case sum.Sign() == 0:
		case t.Max == -1:
			all.Add(all, sum).Add(all, num(2))
		case t.Max > t.Min:
			all.Add(all, new(big.Int).Mul(sum, num(t.Max-t.Min))).Add(all, num(1))
		}
		return all
	}
	return sum
}

// slowBuild is what Build is to answer, the tree laid just as the chapter says.
func slowBuild(t api.Node, rule int) (api.NFA, api.Errno) {
	if !slowTree(t) {
		return api.NFA{}, 50
	}
	if slowPlaces(t).Cmp(big.NewInt(2047)) > 0 {
		return api.NFA{}, 48
	}
	if rule < 0 || rule > 31 {
		return api.NFA{}, 1
	}
	m := api.NFA{Rules: []uint32{0}}
	end := slowLay(&m, t, 0)
	m.States = len(m.Rules)
	m.Rules[end] = uint32(1) << rule
	return m, 0
}

func slowLay(m *api.NFA, t api.Node, a int) int {
	made := func() int {
		m.Rules = append(m.Rules, 0)
		return len(m.Rules) - 1
	}
	edge := func(kind, from, to int) {
		m.Edges = append(m.Edges, api.Edge{Kind: kind, From: from, To: to, Set: t.Set})
	}
	switch t.Kind {
	case api.NodeSet, api.NodeBegin, api.NodeEnd:
		to := made()
		edge(map[int]int{2: 2, 6: 3, 7: 4}[t.Kind], a, to)
		return to
	case api.NodeSeq:
		for _, sub := range t.Subs {
			a = slowLay(m, sub, a)
		}
	case api.NodeAlt:
		ends := make([]int, len(t.Subs))
		for i, sub := range t.Subs {
			b := made()
			edge(1, a, b)
			ends[i] = slowLay(m, sub, b)
		}
		to := made()
		for _, from := range ends {
			edge(1, from, to)
		}
		return to
	case api.NodeTimes:
		if slowPlaces(t.Subs[0]).Sign() == 0 {
			return a
		}
		return slowTimes(m, t, a, made, edge)
	}
	return a
}

func slowTimes(m *api.NFA, t api.Node, a int, made func() int, edge func(kind, from, to int)) int {
	c := a
	for i := 0; i < t.Min; i++ {
		c = slowLay(m, t.Subs[0], c)
	}
	if t.Max == -1 {
		l := made()
		edge(1, c, l)
		edge(1, slowLay(m, t.Subs[0], l), l)
		to := made()
		edge(1, l, to)
		return to
	}
	if t.Max == t.Min {
		return c
	}
	ends := []int{c}
	for i := t.Min; i < t.Max; i++ {
		ends = append(ends, slowLay(m, t.Subs[0], ends[len(ends)-1]))
	}
	to := made()
	for _, from := range ends {
		edge(1, from, to)
	}
	return to
}

// slowUnion is what Union is to answer of machines that fit.
func slowUnion(list []api.NFA) api.NFA {
	m := api.NFA{States: 1, Rules: make([]uint32, 1)}
	for _, one := range list {
		first := len(m.Rules)
		m.Edges = append(m.Edges, api.Edge{Kind: 1, To: first})
		for _, e := range one.Edges {
			m.Edges = append(m.Edges, api.Edge{Kind: e.Kind, From: first + e.From, To: first + e.To, Set: e.Set})
		}
		for _, word := range one.Rules {
			m.Rules = append(m.Rules, word)
			m.States++
		}
	}
	return m
}

// slowRight tells whether a machine fits, question by question.
func slowRight(m api.NFA) bool {
	if m.States < 1 {
		return false
	}
	if len(m.Rules) < m.States || len(m.Rules) > m.States {
		return false
	}
	for _, e := range m.Edges {
		if e.Kind != 1 && e.Kind != 2 && e.Kind != 3 && e.Kind != 4 {
			return false
		}
		if e.From < 0 || e.To < 0 || e.From > m.States-1 || e.To > m.States-1 {
			return false
		}
		for b := 0; b < 256 && e.Kind != 2; b++ {
			if slowHas(e.Set, byte(b)) {
				return false
			}
		}
	}
	return true
}

// slowMet is the rules that a line meets, by a walk in all states at once (chapter 8).
func slowMet(m api.NFA, line string) uint32 {
	met := uint32(0)
	in := make([]bool, m.States)
	spread := func(begin, end bool) {
		in[0] = true
		for more := true; more; {
			more = false
			for _, e := range m.Edges {
				free := e.Kind == 1 || e.Kind == 3 && begin || e.Kind == 4 && end
				if free && in[e.From] && !in[e.To] {
					in[e.To], more = true, true
				}
			}
		}
		for s, is := range in {
			if is {
				met |= m.Rules[s]
			}
		}
	}
	spread(true, len(line) == 0)
	for i := range len(line) {
		next := make([]bool, m.States)
		for _, e := range m.Edges {
			if e.Kind == 2 && in[e.From] && slowHas(e.Set, line[i]) {
				next[e.To] = true
			}
		}
		in = next
		spread(false, i == len(line)-1)
	}
	return met
}

// slowEnds is the places of a line (bits, the place 0 lowest) to which a tree takes it from one of some places: what is taken is tried out, time by time.
func slowEnds(t api.Node, line string, from uint64) uint64 {
	switch t.Kind {
	case api.NodeBegin:
		return from & 1
	case api.NodeEnd:
		return from & (1 << len(line))
	case api.NodeSet:
		to := uint64(0)
		for i := range len(line) {
			if from>>i&1 == 1 && slowHas(t.Set, line[i]) {
				to |= 2 << i
			}
		}
		return to
	case api.NodeSeq:
		for _, sub := range t.Subs {
			from = slowEnds(sub, line, from)
		}
		return from
	case api.NodeAlt:
		to := uint64(0)
		for _, sub := range t.Subs {
			to |= slowEnds(sub, line, from)
		}
		return to
	case api.NodeTimes:
		to := uint64(0)
		for n := 0; ; n++ {
			before := to
			if n >= t.Min {
				to |= from
			}
			if n == t.Max || n > t.Min && to == before { // nothing new comes any more
				return to
			}
			from = slowEnds(t.Subs[0], line, from)
		}
	}
	return from
}

// slowSearch tells whether a tree takes some piece of a line.
func slowSearch(t api.Node, line string) bool { return slowEnds(t, line, 2<<len(line)-1) != 0 }

// chooser makes trees, lines and machines by chance.
type chooser struct{ *rand.Rand }

func chance(seed int64) chooser { return chooser{rand.New(rand.NewSource(seed))} }

// one is one of some numbers.
func (c chooser) one(of ...int) int { return of[c.Intn(len(of))] }

// leaf is a tree without Subs; those with a byte come often.
func (c chooser) leaf() api.Node {
	switch c.Intn(16) {
	case 0, 1, 2:
		return empty()
	case 3, 4:
		return begin()
	case 5, 6:
		return end()
	case 7:
		return nothing()
	case 8:
		return but("a")
	}
	return set([]string{"a", "a", "a", "b", "b", "ab", "x"}[c.Intn(7)])
}

// tree is any tree of at most a depth.
func (c chooser) tree(depth int) api.Node {
	kind := c.Intn(8)
	if depth == 1 || kind < 1 {
		return c.leaf()
	}
	if kind < 4 {
		counts := [][2]int{{0, -1}, {1, -1}, {0, 1}, {0, 0}, {1, 1}, {2, 2}, {2, -1}, {0, 2}, {1, 3}, {2, 3}, {0, 3}, {3, -1}}[c.Intn(12)]
		return times(c.tree(depth-1), counts[0], counts[1])
	}
	var subs []api.Node
	for range 2 + c.one(0, 0, 1, 1, 2, 3) {
		subs = append(subs, c.tree(depth-1))
	}
	if kind < 6 {
		return seq(subs...)
	}
	return alt(subs...)
}

// line is any line of at most so many bytes out of a few; some have a newline.
func (c chooser) line(most int) string {
	var b []byte
	for range c.Intn(most + 1) {
		b = append(b, "aaaaabbbbxy\n"[c.Intn(12)])
	}
	return string(b)
}

// spoil is a tree with one node changed, which may or may not leave it a tree.
func (c chooser) spoil(t api.Node) api.Node {
	if len(t.Subs) > 0 && c.Intn(4) > 0 {
		subs := append([]api.Node(nil), t.Subs...)
		i := c.Intn(len(subs))
		subs[i] = c.spoil(subs[i])
		t.Subs = subs
		return t
	}
	switch c.Intn(6) {
	case 0:
		t.Kind = c.one(-1, 0, 1, 2, 3, 4, 5, 6, 7, 8, 1<<40)
	case 1:
		t.Min = c.one(-1, 0, 1, 2, 255, 256, -1<<63)
	case 2:
		t.Max = c.one(-2, -1, 0, 1, 2, 255, 256, 1<<62)
	case 3:
		t.Set[c.Intn(4)] ^= 1 << c.one(0, 9, 10, 11, 63)
	case 4:
		t.Subs = append([]api.Node{c.leaf()}, t.Subs...)
	case 5:
		t.Subs = t.Subs[:len(t.Subs)/2]
	}
	return t
}

// machine is any machine that fits, also such as no tree has.
func (c chooser) machine() api.NFA {
	m := api.NFA{States: 1 + c.Intn(5)}
	for range m.States {
		m.Rules = append(m.Rules, []uint32{0, 0, 1, 2, 5, 1 << 31, 1<<32 - 1}[c.Intn(7)])
	}
	for range c.Intn(9) {
		e := api.Edge{Kind: 1 + c.Intn(4), From: c.Intn(m.States), To: c.Intn(m.States)}
		if e.Kind == api.EdgeByte {
			e.Set = []api.Set{set("a").Set, set("b\n").Set, but("a").Set, nothing().Set}[c.Intn(4)]
		}
		m.Edges = append(m.Edges, e)
	}
	return m
}

// spoilMachine is a machine with one thing changed, which may or may not leave it fitting.
func (c chooser) spoilMachine(m api.NFA) api.NFA {
	m.Edges = append([]api.Edge(nil), m.Edges...)
	if len(m.Edges) == 0 || c.Intn(4) == 0 {
		if c.Intn(2) == 0 {
			m.States = c.one(-1<<63, -1, 0, m.States-1, m.States+1, 1<<62)
		} else {
			m.Rules = make([]uint32, c.one(0, m.States-1, m.States, m.States+1))
		}
		return m
	}
	e := &m.Edges[c.Intn(len(m.Edges))]
	switch c.Intn(4) {
	case 0:
		e.Kind = c.one(-1, 0, 1, 2, 3, 4, 5, 1<<40)
	case 1:
		e.From = c.one(-1<<63, -1, 0, m.States-1, m.States, m.States+1, 1<<62)
	case 2:
		e.To = c.one(-1<<63, -1, 0, m.States-1, m.States, m.States+1, 1<<62)
	case 3:
		e.Set[c.Intn(4)] ^= 1 << c.one(0, 10, 63)
	}
	return m
}
