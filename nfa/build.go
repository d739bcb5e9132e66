package nfa

import "heron/api"

const endless = -1 // the Max of a repeat without an end

// trimmed is a tree of which the same is laid, without the nodes that lay nothing of their own (but those that an Alt has): a repeat goes through its Sub each time, and there may be far more of these nodes than of states. Where nothing at all is laid it is NodeEmpty.
func trimmed(t api.Node) api.Node {
	switch t.Kind {
	case api.NodeSeq:
		return trimmedSeq(t.Subs)
	case api.NodeAlt:
		subs := make([]api.Node, len(t.Subs))
		for i, sub := range t.Subs {
			subs[i] = trimmed(sub)
		}
		return api.Node{Kind: api.NodeAlt, Subs: subs}
	case api.NodeTimes:
		return trimmedTimes(t)
	}
	return t
}

func trimmedSeq(list []api.Node) api.Node {
	var subs []api.Node
	for _, t := range list {
		if sub := trimmed(t); sub.Kind != api.NodeEmpty {
			subs = append(subs, sub)
		}
	}
	switch len(subs) {
	case 0:
		return api.Node{Kind: api.NodeEmpty}
	case 1:
		return subs[0]
	}
	return api.Node{Kind: api.NodeSeq, Subs: subs}
}

func trimmedTimes(t api.Node) api.Node {
	if t.Max == 0 { // whatever the Sub is, and it may be greater than any machine
		return api.Node{Kind: api.NodeEmpty}
	}
	sub := trimmed(t.Subs[0])
	if sub.Kind == api.NodeEmpty || t.Min == 1 && t.Max == 1 {
		return sub
	}
	return api.Node{Kind: api.NodeTimes, Subs: []api.Node{sub}, Min: t.Min, Max: t.Max}
}

// builder lays trees, and keeps what it has made of a machine by then.
type builder struct {
	ways   []way
	states int
	edges  []api.Edge
}

// way lays a node of one kind from a state, and is the state where that ends.
type way func(b *builder, t api.Node, from int) int

// ways is the way of each kind.
func ways() []way {
	return []way{
		api.NodeEmpty: (*builder).empty,
		api.NodeSet:   (*builder).set,
		api.NodeSeq:   (*builder).seq,
		api.NodeAlt:   (*builder).alt,
		api.NodeTimes: (*builder).times,
		api.NodeBegin: (*builder).begin,
		api.NodeEnd:   (*builder).end,
	}
}

// lay lays a trimmed tree.
func (b *builder) lay(t api.Node, from int) int { return b.ways[t.Kind](b, t, from) }

func (b *builder) empty(_ api.Node, from int) int { return from }

func (b *builder) set(t api.Node, from int) int { return b.onward(api.EdgeByte, from, t.Set) }

func (b *builder) begin(_ api.Node, from int) int { return b.onward(api.EdgeBegin, from, api.Set{}) }

func (b *builder) end(_ api.Node, from int) int { return b.onward(api.EdgeEnd, from, api.Set{}) }

func (b *builder) seq(t api.Node, from int) int {
	for _, sub := range t.Subs {
		from = b.lay(sub, from)
	}
	return from
}

func (b *builder) alt(t api.Node, from int) int {
	var ends []int
	for _, sub := range t.Subs {
		ends = append(ends, b.lay(sub, b.fork(from)))
	}
	return b.join(ends)
}

func (b *builder) times(t api.Node, from int) int {
	sub := t.Subs[0]
	for range t.Min {
		from = b.lay(sub, from)
	}
	switch {
	case t.Max == endless:
		return b.loop(sub, from)
	case t.Max > t.Min:
		return b.upTo(sub, t.Max-t.Min, from)
	}
	return from
}

// loop lays a tree any number of times.
func (b *builder) loop(t api.Node, from int) int {
	head := b.fork(from)
	b.free(b.lay(t, head), head)
	return b.fork(head)
}

// upTo lays a tree so many times, each of which may be the last one ahead of its end, as may none at all.
func (b *builder) upTo(t api.Node, most, from int) int {
	ends := []int{from}
	for range most {
		from = b.lay(t, from)
		ends = append(ends, from)
	}
	return b.join(ends)
}

// fork makes a state that a free edge leads to.
func (b *builder) fork(from int) int { return b.onward(api.EdgeFree, from, api.Set{}) }

// join makes a state that free edges lead to from each of some.
func (b *builder) join(from []int) int {
	to := b.state()
	for _, s := range from {
		b.free(s, to)
	}
	return to
}

// onward makes a state, and an edge of a kind to it.
func (b *builder) onward(kind, from int, bytes api.Set) int {
	to := b.state()
	b.edge(api.Edge{Kind: kind, From: from, To: to, Set: bytes})
	return to
}

func (b *builder) free(from, to int) { b.edge(api.Edge{Kind: api.EdgeFree, From: from, To: to}) }

func (b *builder) edge(e api.Edge) { b.edges = append(b.edges, e) }

func (b *builder) state() int {
	b.states++
	return b.states - 1
}
