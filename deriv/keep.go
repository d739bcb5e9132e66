package deriv

import (
	"slices"
	"strconv"

	"heron/api"
	"heron/octets"
)

// The numbers of two trees in every keep.
const (
	nothing = 0
	empty   = 1
)

const fewBytes = 80 // room for nearly all texts of kept trees, so that they needn't grow

// kept is a tree whose Subs are told by their numbers. A NodeSeq has two: its first part, which is no NodeSeq, and all that stands behind it, so that rows with one end have it in common.
type kept struct {
	kind        int
	set         api.Set
	subs        []int
	least, most int
}

// keep holds trees, each once, by its text. What its calls make of plainest trees are plainest trees, by chapter 5's rules; layer 5's Plain makes none of these, since it refuses a rest that isn't right yet, but would be when it is plain. A tree's number is greater than those of its Subs.
type keep struct {
	trees  []kept
	number map[string]int
}

func newKeep() *keep {
	k := &keep{number: map[string]int{}}
	k.put(kept{kind: api.NodeSet})
	k.put(kept{kind: api.NodeEmpty})
	return k
}

// put is a tree's number.
func (k *keep) put(t kept) int {
	text := t.text()
	n, is := k.number[text]
	if !is {
		n = len(k.trees)
		k.trees = append(k.trees, t)
		k.number[text] = n
	}
	return n
}

// text tells a tree from all others of its keep. It is none of chapter 5's texts: these are refused of a great tree, and grow with each rest.
func (t kept) text() string {
	b := strconv.AppendInt(make([]byte, 0, fewBytes), int64(t.kind), 10)
	if t.kind == api.NodeSet {
		for _, word := range t.set {
			b = strconv.AppendUint(append(b, ' '), word, 16)
		}
	}
	if t.kind == api.NodeTimes {
		b = strconv.AppendInt(append(b, ' '), int64(t.least), 10)
		b = strconv.AppendInt(append(b, ' '), int64(t.most), 10)
	}
	for _, sub := range t.subs {
		b = strconv.AppendInt(append(b, ' '), int64(sub), 10)
	}
	return string(b)
}

// lay is the plainest tree of a node.
func (k *keep) lay(t api.Node) int {
	subs := make([]int, len(t.Subs))
	for i, sub := range t.Subs {
		subs[i] = k.lay(sub)
	}
	switch t.Kind {
	case api.NodeSeq:
		row := empty
		for _, x := range slices.Backward(subs) {
			row = k.seq(x, row)
		}
		return row
	case api.NodeAlt:
		return k.alt(subs)
	case api.NodeTimes:
		return k.times(subs[0], t.Min, t.Max)
	}
	return k.leaf(t)
}

// leaf is a node without Subs.
func (k *keep) leaf(t api.Node) int { return k.put(kept{kind: t.Kind, set: t.Set}) }

// seq is one tree and another one behind it.
func (k *keep) seq(x, y int) int {
	first, behind := k.cut(x)
	switch {
	case x == nothing || y == nothing:
		return nothing
	case x == empty:
		return y
	case y == empty:
		return x
	case behind != empty:
		return k.seq(first, k.seq(behind, y))
	case k.isAnchor(x) && x == k.head(y):
		return y
	}
	return k.put(kept{kind: api.NodeSeq, subs: []int{x, y}})
}

// cut is a tree's first part and all that stands behind it.
func (k *keep) cut(x int) (int, int) {
	if t := &k.trees[x]; t.kind == api.NodeSeq {
		return t.subs[0], t.subs[1]
	}
	return x, empty
}

func (k *keep) head(x int) int {
	first, _ := k.cut(x)
	return first
}

func (k *keep) isAnchor(x int) bool {
	kind := k.trees[x].kind
	return kind == api.NodeBegin || kind == api.NodeEnd
}

// alt is one of some trees, whichever.
func (k *keep) alt(list []int) int {
	var row []int
	var bytes api.Set
	place := map[int]int{} // of each in the row
	k.each(list, func(x int) {
		if k.trees[x].kind == api.NodeSet {
			bytes = octets.Join(bytes, k.trees[x].set)
			x = nothing // stands for all Sets, till their bytes are known
		}
		if _, is := place[x]; !is {
			place[x] = len(row)
			row = append(row, x)
		}
	})
	if at, is := place[nothing]; is {
		row[at] = k.put(kept{kind: api.NodeSet, set: bytes})
	}
	switch len(row) {
	case 0:
		return nothing
	case 1:
		return row[0]
	}
	return k.put(kept{kind: api.NodeAlt, subs: row})
}

// each hands on each of some trees but nothing, and of a NodeAlt each of its Subs.
func (k *keep) each(list []int, do func(x int)) {
	for _, x := range list {
		switch {
		case x == nothing:
		case k.trees[x].kind == api.NodeAlt:
			for _, sub := range k.trees[x].subs {
				do(sub)
			}
		default:
			do(x)
		}
	}
}

// times is a tree from least to most times.
func (k *keep) times(x, least, most int) int {
	t := k.trees[x]
	switch {
	case most == 0 || x == empty:
		return empty
	case x == nothing || k.isAnchor(x):
		if least == 0 {
			return empty
		}
		return x
	case least == 1 && most == 1 || t.kind == api.NodeTimes && t.least == 0 && t.most == endless:
		return x
	}
	return k.put(kept{kind: api.NodeTimes, subs: []int{x}, least: least, most: most})
}

// row is the Subs of a tree as a node has them.
func (k *keep) row(x int) []int {
	if k.trees[x].kind != api.NodeSeq {
		return k.trees[x].subs
	}
	var all []int
	for x != empty {
		var first int
		first, x = k.cut(x)
		all = append(all, first)
	}
	return all
}

// node is a tree in memory of its own.
func (k *keep) node(x int) api.Node {
	t := k.trees[x]
	n := api.Node{Kind: t.kind, Set: t.set, Min: t.least, Max: t.most}
	for _, sub := range k.row(x) {
		n.Subs = append(n.Subs, k.node(sub))
	}
	return n
}

// measure is how deep a tree is, and how many nodes it has. It goes through all trees up to it, Subs first, so that none is measured twice, however often it stands in others.
func (k *keep) measure(x int) (int, int) {
	deep, nodes := make([]int, x+1), make([]int, x+1)
	for n, t := range k.trees[:x+1] {
		deep[n], nodes[n] = 1, 1
		for _, sub := range t.subs {
			own := 1
			if t.kind == api.NodeSeq && k.trees[sub].kind == api.NodeSeq { // it is the same row further on
				own = 0
			}
			deep[n] = max(deep[n], deep[sub]+own)
			nodes[n] += nodes[sub] - 1 + own
		}
	}
	return deep[x], nodes[x]
}
