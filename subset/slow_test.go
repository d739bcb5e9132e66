package subset_test

import (
	"fmt"
	"math/rand"
	"slices"

	"heron/api"
)

// What the tests hold the package against: the chapter's words in another way, slow and plain.

// slowHas tells whether a byte is in a Set.
func slowHas(a api.Set, b byte) bool {
	words := []uint64{a[0], a[1], a[2], a[3]}
	return words[int(b)/64]&(uint64(1)<<(int(b)%64)) != 0
}

// moment is what a walk tells at a place of a line.
type moment struct {
	states     []int
	rules, end uint32
}

func sameMoment(a, b moment) bool {
	return slices.Equal(a.states, b.states) && a.rules == b.rules && a.end == b.end
}

// slowMore is some states and all that are come to from them by an edge of some kinds, rising: every edge is asked again and again, till none leads to anything new.
func slowMore(m api.NFA, in []int, kinds string) []int {
	more := slices.Clone(in)
	for {
		before := len(more)
		for _, e := range m.Edges {
			for _, kind := range kinds {
				if e.Kind == int(kind-'0') && slices.Contains(more, e.From) && !slices.Contains(more, e.To) {
					more = append(more, e.To)
				}
			}
		}
		if len(more) == before {
			slices.Sort(more)
			return more
		}
	}
}

// slowRules is the rules of some states.
func slowRules(m api.NFA, in []int) uint32 {
	met := uint32(0)
	for _, s := range in {
		met |= m.Rules[s]
	}
	return met
}

// slowBegin is the moment at a line's beginning.
func slowBegin(m api.NFA) moment {
	in := slowMore(m, []int{0}, "13")
	return moment{in, slowRules(m, in), slowRules(m, in) | slowRules(m, slowMore(m, in, "134"))}
}

// slowBehind is the moment behind a byte.
func slowBehind(m api.NFA, at moment, b byte) moment {
	next := []int{0}
	for _, e := range m.Edges {
		if e.Kind == 2 && slices.Contains(at.states, e.From) && slowHas(e.Set, b) && !slices.Contains(next, e.To) {
			next = append(next, e.To)
		}
	}
	in := slowMore(m, next, "1")
	met := at.rules | slowRules(m, in)
	return moment{in, met, met | slowRules(m, slowMore(m, in, "14"))}
}

// slowLine is what a line meets.
func slowLine(m api.NFA, line string) uint32 {
	at := slowBegin(m)
	for i := 0; i < len(line); i++ {
		at = slowBehind(m, at, line[i])
	}
	return at.end
}

// slowClasses is each byte's class: that of the first byte which no edge tells apart from it, or the next number.
func slowClasses(m api.NFA) ([256]int, int) {
	var class [256]int
	count := 0
	for b := range class {
		class[b] = -1
		for ahead := range b {
			apart := false
			for _, e := range m.Edges {
				apart = apart || e.Kind == 2 && slowHas(e.Set, byte(b)) != slowHas(e.Set, byte(ahead))
			}
			if !apart {
				class[b] = class[ahead]
				break
			}
		}
		if class[b] == -1 {
			class[b] = count
			count++
		}
	}
	return class, count
}

// slowBuild is the table of a machine that fits, and the moment of each of its states. Each class's last byte stands for it.
func slowBuild(m api.NFA, states int) (api.DFA, []moment, api.Errno) {
	class, count := slowClasses(m)
	all := []moment{slowBegin(m)}
	d := api.DFA{Class: class}
	for s := 0; s < len(all); s++ {
		if len(all) > states || len(all) > 4096 {
			return api.DFA{}, nil, api.ErrCap
		}
		next := make([]int, count)
		for c := range next {
			last := byte(0)
			for b := range 256 {
				if class[b] == c {
					last = byte(b)
				}
			}
			behind := slowBehind(m, all[s], last)
			next[c] = slices.IndexFunc(all, func(at moment) bool { return sameMoment(at, behind) })
			if next[c] < 0 {
				next[c] = len(all)
				all = append(all, behind)
			}
		}
		d.Next = append(d.Next, next)
		d.Found = append(d.Found, all[s].rules)
		d.Ends = append(d.Ends, all[s].end)
	}
	if len(all) > states || len(all) > 4096 {
		return api.DFA{}, nil, api.ErrCap
	}
	return d, all, api.OK
}

// slowRight tells whether a table fits, condition by condition.
func slowRight(d api.DFA) bool {
	S := len(d.Next)
	if !(1 <= S && S <= 4096) {
		return false
	}
	C := len(d.Next[0])
	if !(1 <= C && C <= 256) || len(d.Found) != S || len(d.Ends) != S {
		return false
	}
	for _, list := range d.Next {
		if len(list) != C {
			return false
		}
		for _, to := range list {
			if !(0 <= to && to <= S-1) {
				return false
			}
		}
	}
	for _, c := range d.Class {
		if !(0 <= c && c <= C-1) {
			return false
		}
	}
	for s := range S {
		for bit := range 32 {
			if d.Found[s]>>bit&1 == 0 {
				continue
			}
			if d.Ends[s]>>bit&1 == 0 {
				return false
			}
			for _, to := range d.Next[s] {
				if d.Found[to]>>bit&1 == 0 {
					return false
				}
			}
		}
	}
	return true
}

// slowRun is what the run of a table that fits meets.
func slowRun(d api.DFA, line string) uint32 {
	if line == "" {
		return d.Ends[0]
	}
	s := 0
	for _, b := range []byte(line) {
		c := d.Class[b]
		list := d.Next[s]
		s = list[c]
	}
	return d.Ends[s]
}

// copiedTable is a table that shares nothing with the one that it is a copy of.
func copiedTable(d api.DFA) api.DFA {
	next := make([][]int, len(d.Next))
	for s := range next {
		next[s] = slices.Clone(d.Next[s])
	}
	return api.DFA{Class: d.Class, Next: next, Found: slices.Clone(d.Found), Ends: slices.Clone(d.Ends)}
}

// sameTable tells whether two tables are the same, an empty list being the same as none.
func sameTable(a, b api.DFA) bool {
	return a.Class == b.Class && slices.EqualFunc(a.Next, b.Next, slices.Equal[[]int]) && slices.Equal(a.Found, b.Found) && slices.Equal(a.Ends, b.Ends)
}

// tableText is a table but for its classes, as the chapter's examples have it.
func tableText(d api.DFA) string {
	text := ""
	for s, next := range d.Next {
		text += fmt.Sprintf("Next %d: %s; ", s, listText(next))
	}
	return text + "Found " + listText(d.Found) + "; Ends " + listText(d.Ends)
}

func listText[T any](list []T) string {
	text := fmt.Sprint(list)
	return text[1 : len(text)-1]
}

// chooser makes machines, tables and lines by chance.
type chooser struct{ *rand.Rand }

func chance(seed int64) chooser { return chooser{rand.New(rand.NewSource(seed))} }

// line is any line of at most so many bytes out of a few.
func (c chooser) line(most int) string {
	var b []byte
	for range c.Intn(most + 1) {
		b = append(b, "aaaaaabbbbbx\n\x00\xff"[c.Intn(15)])
	}
	return string(b)
}

// machine is any machine of so many states that fits, also such as no tree has, with so many edges at most beside those that lead to each of its states.
func (c chooser) machine(states, edges int) api.NFA {
	m := api.NFA{States: states}
	for range states {
		m.Rules = append(m.Rules, []uint32{0, 0, 0, 0, 0, 0, 1, 2, 4, 9, 1 << 31}[c.Intn(11)])
	}
	for s := 1; s < states; s++ { // without these most states were come to by no line
		m.Edges = append(m.Edges, c.edge(max(0, s-1-c.Intn(3)), s))
	}
	for range c.Intn(edges + 1) {
		m.Edges = append(m.Edges, c.edge(c.Intn(states), c.Intn(states)))
	}
	c.Shuffle(len(m.Edges), func(i, k int) { m.Edges[i], m.Edges[k] = m.Edges[k], m.Edges[i] })
	return m
}

// edge is any edge from a state to another one.
func (c chooser) edge(from, to int) api.Edge {
	e := api.Edge{Kind: []int{1, 2, 2, 2, 2, 2, 2, 3, 4}[c.Intn(9)], From: from, To: to}
	if e.Kind == api.EdgeByte {
		e.Set = []api.Set{bytesOf("a"), bytesOf("a"), bytesOf("b"), bytesOf("b\n"), bytesBut("a"), bytesBut(""), bytesOf(""), bytesOf("\x00"), bytesOf("\xff")}[c.Intn(9)]
	}
	return e
}

// table is any table that fits: Found grows along Next, as far as that goes.
func (c chooser) table(states, classes int) api.DFA {
	d := api.DFA{}
	for b := range d.Class {
		d.Class[b] = c.Intn(classes)
	}
	for range states {
		next := make([]int, classes)
		for i := range next {
			next[i] = c.Intn(states)
		}
		d.Next = append(d.Next, next)
		d.Found = append(d.Found, []uint32{0, 0, 0, 1, 1 << 31, 6}[c.Intn(6)])
		d.Ends = append(d.Ends, c.Uint32()&c.Uint32())
	}
	for range states {
		for s, next := range d.Next {
			for _, to := range next {
				d.Found[to] |= d.Found[s]
			}
		}
	}
	for s := range states {
		d.Ends[s] |= d.Found[s]
	}
	return d
}
