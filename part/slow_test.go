package part_test

import (
	"math/rand"

	"heron/api"
)

// What the tests hold the package against: the chapter's words in another way, slow and plain.

// slowHas tells whether a byte is in a Set.
func slowHas(a api.Set, b int) bool {
	words := []uint64{a[0], a[1], a[2], a[3]}
	return words[b/64]&(uint64(1)<<(b%64)) != 0
}

// slowApart tells whether one of some sets tells two bytes apart.
func slowApart(sets []api.Set, a, b int) bool {
	for _, s := range sets {
		if slowHas(s, a) != slowHas(s, b) {
			return true
		}
	}
	return false
}

// slowClasses is each byte's class and how many there are: every byte is held against all bytes ahead of it.
func slowClasses(sets []api.Set) ([256]int, int) {
	var class [256]int
	count := 0
	for b := range 256 {
		ahead := 0
		for ahead < b && slowApart(sets, ahead, b) {
			ahead++
		}
		if ahead < b {
			class[b] = class[ahead]
			continue
		}
		class[b] = count
		count++
	}
	return class, count
}

// slowMembers is the bytes of a class, told one by one.
func slowMembers(class [256]int, c int) [256]bool {
	var in [256]bool
	for b := range 256 {
		in[b] = class[b] == c
	}
	return in
}

// slowSets is the sets of a machine's edges that take a byte: each is held against all edges ahead of it.
func slowSets(m api.NFA) []api.Set {
	var sets []api.Set
	for i, e := range m.Edges {
		first := e.Kind == 2
		for _, ahead := range m.Edges[:i] {
			if ahead.Kind == 2 && ahead.Set == e.Set {
				first = false
			}
		}
		if first {
			sets = append(sets, e.Set)
		}
	}
	return sets
}

// chooser makes sets and machines by chance.
type chooser struct{ *rand.Rand }

func chance(seed int64) chooser { return chooser{rand.New(rand.NewSource(seed))} }

// set is any set: thin, thick, a row, or such as an edge of the words has.
func (c chooser) set() api.Set {
	switch c.Intn(8) {
	case 0:
		return api.Set{}
	case 1:
		return bytesBut()
	case 2:
		return bytesOf(c.Intn(256))
	case 3:
		return bytesBut(c.Intn(256))
	case 4:
		return api.Set{c.Uint64(), c.Uint64(), c.Uint64(), c.Uint64()}
	case 5:
		return bytesOf([]int{0, 10, 63, 64, 127, 128, 191, 192, 255}[c.Intn(9)], c.Intn(256))
	case 6:
		var a api.Set
		a[c.Intn(4)] = ^uint64(0)
		return a
	}
	from := c.Intn(256)
	return row(from, from+c.Intn(256-from))
}

// sets is so many sets at most, of which some stand twice.
func (c chooser) sets(most int) []api.Set {
	var l []api.Set
	for range c.Intn(most + 1) {
		if len(l) > 0 && c.Intn(4) == 0 {
			l = append(l, l[c.Intn(len(l))])
			continue
		}
		l = append(l, c.set())
	}
	return l
}

// machine is any machine, also such as doesn't fit, whose edges have few different sets, of which some differ in one word alone.
func (c chooser) machine(edges int) api.NFA {
	m := api.NFA{States: c.Intn(5) - 2}
	pool := []api.Set{{}, bytesOf('a'), bytesOf('b'), bytesOf('a', 'b'), {1}, {0, 1}, {0, 0, 1}, {0, 0, 0, 1}, c.set(), c.set()}
	for range c.Intn(edges + 1) {
		e := api.Edge{Kind: []int{2, 2, 2, 1, 3, 4, 0, -2, 9}[c.Intn(9)], From: c.Intn(9) - 3, To: c.Intn(9) - 3, Set: pool[c.Intn(len(pool))]}
		m.Edges = append(m.Edges, e)
	}
	for range c.Intn(4) {
		m.Rules = append(m.Rules, c.Uint32())
	}
	return m
}
