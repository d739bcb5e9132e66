package least_test

import (
	"fmt"
	"math/rand"
	"slices"

	"heron/api"
)

// What the tests hold the package against: the chapter's words in another way, slow and plain.

// to is the state to which a byte leads.
func to(d api.DFA, s int, b byte) int { return d.Next[s][d.Class[b]] }

// behind is the state to which a row of bytes leads.
func behind(d api.DFA, s int, bytes string) int {
	for i := range len(bytes) {
		s = to(d, s, bytes[i])
	}
	return s
}

// slowMet tells of each state whether it is met: all are asked again and again, till nothing new comes.
func slowMet(d api.DFA) []bool {
	met := make([]bool, len(d.Next))
	met[0] = true
	for {
		before := slices.Clone(met)
		for s := range met {
			for b := range 256 {
				if met[s] {
					met[to(d, s, byte(b))] = true
				}
			}
		}
		if slices.Equal(before, met) {
			return met
		}
	}
}

// slowAlike tells of each state of one table and each of another one whether they are alike: two are not, if their words are others, or if a byte leads to two that are not.
func slowAlike(a, b api.DFA) [][]bool {
	alike := make([][]bool, len(a.Next))
	for s := range alike {
		for r := range b.Next {
			alike[s] = append(alike[s], a.Found[s] == b.Found[r] && a.Ends[s] == b.Ends[r])
		}
	}
	for changed := true; changed; {
		changed = false
		for s := range alike {
			for r := range alike[s] {
				for by := 0; alike[s][r] && by < 256; by++ {
					if !alike[to(a, s, byte(by))][to(b, r, byte(by))] {
						alike[s][r] = false
						changed = true
					}
				}
			}
		}
	}
	return alike
}

// slowMake is the least table of one that fits. A state of it is told by the first of the states that are one.
func slowMake(d api.DFA) api.DFA {
	met, alike := slowMet(d), slowAlike(d, d)
	first := func(s int) int { return slices.IndexFunc(alike[s], func(yes bool) bool { return yes }) }
	oneClass := func(x, y int) bool {
		for s := range met {
			if met[s] && first(to(d, s, byte(x))) != first(to(d, s, byte(y))) {
				return false
			}
		}
		return true
	}
	var l api.DFA
	var byteOf []int // the first byte of each class
	for b := range 256 {
		c := slices.IndexFunc(byteOf, func(x int) bool { return oneClass(x, b) })
		if c < 0 {
			c = len(byteOf)
			byteOf = append(byteOf, b)
		}
		l.Class[b] = c
	}
	states := []int{first(0)}
	for n := 0; n < len(states); n++ {
		var next []int
		for _, b := range byteOf {
			behind := first(to(d, states[n], byte(b)))
			if !slices.Contains(states, behind) {
				states = append(states, behind)
			}
			next = append(next, slices.Index(states, behind))
		}
		l.Next = append(l.Next, next)
		l.Found = append(l.Found, d.Found[states[n]])
		l.Ends = append(l.Ends, d.Ends[states[n]])
	}
	return l
}

// slowSame is how many bytes a shortest line has on which two tables that fit don't meet the same; -1: there is none. Every pair of states is gone through.
func slowSame(a, b api.DFA) int {
	far := map[[2]int]int{{0, 0}: 0} // how many bytes lead to each pair
	for row := [][2]int{{0, 0}}; len(row) > 0; row = row[1:] {
		s, r := row[0][0], row[0][1]
		if a.Ends[s] != b.Ends[r] {
			return far[row[0]]
		}
		for by := range 256 {
			next := [2]int{to(a, s, byte(by)), to(b, r, byte(by))}
			if _, there := far[next]; !there && by != '\n' {
				far[next] = far[row[0]] + 1
				row = append(row, next)
			}
		}
	}
	return -1
}

// copied is a table that shares nothing with the one that it is a copy of.
func copied(d api.DFA) api.DFA {
	next := make([][]int, len(d.Next))
	for s := range next {
		next[s] = slices.Clone(d.Next[s])
	}
	return api.DFA{Class: d.Class, Next: next, Found: slices.Clone(d.Found), Ends: slices.Clone(d.Ends)}
}

// sameTable tells whether two tables are the same, an empty list being the same as none.
func sameTable(a, b api.DFA) bool {
	return a.Class == b.Class && slices.EqualFunc(a.Next, b.Next, slices.Equal[[]int]) && slices.Equal(a.Found, b.Found) && slices.Equal(a.Ends, b.Ends)
}

// tell is a table as text, cut short: the bytes of class 0 are left out.
func tell(d api.DFA) string {
	classes := ""
	for b, c := range d.Class {
		if c != 0 {
			classes += fmt.Sprintf("%q %d ", []byte{byte(b)}, c)
		}
	}
	return fmt.Sprintf("Next %.300s Found %.200s Ends %.200s Class %.300s", fmt.Sprint(d.Next), fmt.Sprint(d.Found), fmt.Sprint(d.Ends), classes)
}

// chooser makes tables and lines by chance.
type chooser struct{ *rand.Rand }

func chance(seed int64) chooser { return chooser{rand.New(rand.NewSource(seed))} }

// row is any row of at most so many bytes.
func (c chooser) row(most int) string {
	b := make([]byte, c.Intn(most+1))
	for i := range b {
		b[i] = "aabbc\n\x00\xff"[c.Intn(8)]
		if c.Intn(4) == 0 {
			b[i] = byte(c.Intn(256))
		}
	}
	return string(b)
}

// table is any table that fits, with few words, so that many of its states may be alike. Bytes have some of the classes, and if there are few of these, mostly all.
func (c chooser) table(states, classes int) api.DFA {
	d := api.DFA{}
	used := 1 + c.Intn(classes)
	for b := range d.Class {
		d.Class[b] = c.Intn(used)
	}
	words := []uint32{0, 0, 0, 0, 0, 0, 1, 1 << 31, 5}[:5+c.Intn(5)]
	for range states {
		next := make([]int, classes)
		for i := range next {
			next[i] = c.Intn(states)
		}
		d.Next = append(d.Next, next)
		d.Found = append(d.Found, words[c.Intn(len(words))]*uint32(c.Intn(2)))
		d.Ends = append(d.Ends, words[c.Intn(len(words))])
	}
	return fitted(d)
}

// fitted is a table whose Found was made to grow along Next, and Ends to have it.
func fitted(d api.DFA) api.DFA {
	for changed := true; changed; {
		changed = false
		for s, next := range d.Next {
			for _, t := range next {
				changed = changed || d.Found[s]&^d.Found[t] != 0
				d.Found[t] |= d.Found[s]
			}
		}
	}
	for s := range d.Next {
		d.Ends[s] |= d.Found[s]
	}
	return d
}

// blown is a table that tells what another one tells of every row of bytes, greater: each state stands there up to so many times, a class's bytes have up to so many classes, no byte has some classes, and states to which those lead need not be met; and all numbers but that of state 0 are others.
func (c chooser) blown(d api.DFA, times int) api.DFA {
	state, copies := c.repeated(len(d.Next), times)
	class, fresh := c.repeated(len(d.Next[0])+1, times) // the last one is for classes that no byte has
	o := api.DFA{}
	for b, k := range d.Class {
		o.Class[b] = c.one(fresh[k])
	}
	for _, s := range state {
		next := make([]int, len(class))
		for n, k := range class {
			if k < len(d.Next[0]) {
				next[n] = c.one(copies[d.Next[s][k]])
				continue
			}
			for next[n] = c.Intn(len(state)); d.Found[s]&^d.Found[state[next[n]]] != 0; { // anywhere where nothing of Found is lost
				next[n] = c.Intn(len(state))
			}
		}
		o.Next = append(o.Next, next)
		o.Found = append(o.Found, d.Found[s])
		o.Ends = append(o.Ends, d.Ends[s])
	}
	return o
}

// repeated is a list in which each number below n stands from once up to so many times, 0 first, the others anywhere; and the places of each.
func (c chooser) repeated(n, times int) ([]int, [][]int) {
	list := []int{0}
	for k := 1; k < n*times; k++ {
		if k < n || c.Intn(2) == 0 {
			list = append(list, k%n)
		}
	}
	c.Shuffle(len(list)-1, func(i, k int) { list[i+1], list[k+1] = list[k+1], list[i+1] })
	places := make([][]int, n)
	for i, k := range list {
		places[k] = append(places[k], i)
	}
	return list, places
}

func (c chooser) one(list []int) int { return list[c.Intn(len(list))] }
