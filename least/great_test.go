package least_test

import (
	"slices"
	"strings"
	"sync"
	"testing"
	"time"

	"heron/api"
	"heron/least"
	"heron/subset"
)

// soon asks that something is done within a time that is far more than it takes, and far less than it would take if every pair of states, or every state for each state, were gone through.
func soon(t *testing.T, what string, do func()) {
	t.Helper()
	start := time.Now()
	do()
	if took := time.Since(start); took > 10*time.Second {
		t.Errorf("%s took %v", what, took)
	}
}

// great is a table of so many states, and a class for each byte, in which a rule says where each leads.
func great(states int, next func(s, c int) int) api.DFA {
	d := api.DFA{Found: words(states), Ends: words(states)}
	for b := range d.Class {
		d.Class[b] = b
	}
	for s := range states {
		list := make([]int, 256)
		for c := range list {
			list[c] = next(s, c)
		}
		d.Next = append(d.Next, list)
	}
	return d
}

// row is a table of so many states one behind the other, up to the last one: each class goes on but in one state.
func row(states int) api.DFA {
	return great(states, func(s, c int) int {
		if s == c+1 {
			return 0
		}
		return min(s+1, states-1)
	})
}

// P11.5: a row in which only the last state has a word: it is told by one further state at a time.
func TestGreatRow(t *testing.T) {
	n := api.MaxStates
	d := row(n)
	d.Ends[n-1] = 1
	short := row(n - 1)
	short.Ends[n-2] = 1
	soon(t, "a row", func() { wantMade(t, d, d) })
	soon(t, "a row beside itself", func() { wantSame(t, d, d, -1) })
	soon(t, "a row beside a shorter one", func() { wantSame(t, d, short, n-2) })
	d.Ends[n-1] = 0
	soon(t, "a row of alike ones", func() {
		wantMade(t, d, api.DFA{Next: [][]int{{0}}, Found: words(1), Ends: words(1)})
	})
	short.Ends[n-2] = 0
	soon(t, "rows of alike ones", func() { wantSame(t, d, short, -1) })
}

// ring is a table of one ring, which each class goes round by one.
func ring(ends []uint32) api.DFA {
	n := len(ends)
	d := great(n, func(s, c int) int { return (s + 1) % n })
	copy(d.Ends, ends)
	return d
}

// central is what two rings of so many states (without a common divisor) tell that are told apart only behind as many bytes as they have states together, less two.
func central(p, q int) (x, y []uint32) {
	word := make([]int, p+q-2) // a letter is the same p and q places further on: two letters can be chosen
	for i := range word {
		word[i] = -1
	}
	var fill func(i, letter int)
	fill = func(i, letter int) {
		if i < 0 || i >= len(word) || word[i] >= 0 {
			return
		}
		word[i] = letter
		for _, k := range []int{i - p, i + p, i - q, i + q} {
			fill(k, letter)
		}
	}
	fill(p-1, 0)
	fill(q-1, 1)
	for i := range p {
		x = append(x, uint32(word[i]))
	}
	for i := range q {
		y = append(y, uint32(word[i]))
	}
	return x, y
}

// P11.2, P11.5: two rings whose states come together in every pair there is: they are held against each other by as many pairs as they have states, and yet the line is a shortest one.
func TestGreatRings(t *testing.T) {
	for _, c := range [][2]int{{2, 3}, {3, 4}, {3, 5}, {5, 8}, {7, 16}, {31, 64}} {
		x, y := central(c[0], c[1])
		wantSame(t, ring(x), ring(y), c[0]+c[1]-2)
		wantSameSlow(t, ring(x), ring(y))
	}
	p, q := api.MaxStates-3, api.MaxStates
	x, y := central(p, q)
	a, b := ring(x), ring(y)
	soon(t, "two rings", func() { wantSame(t, a, b, p+q-2) })
	soon(t, "a ring", func() {
		if l := made(t, b); len(l.Next) != q || len(l.Next[0]) != 1 {
			t.Errorf("%d states, %d classes", len(l.Next), len(l.Next[0]))
		}
	})
	clear(a.Ends)
	clear(b.Ends)
	soon(t, "two rings of alike ones", func() { wantSame(t, a, b, -1) })
}

// P11.5: tables in which every split of a part is one into halves: state s tells the bit at place s of a row in which each row of 12 bits stands once.
func TestGreatHalves(t *testing.T) {
	n := api.MaxStates
	ends, seen := words(n), make([]bool, n)
	for i, last := 0, 0; i < n; i++ { // the next bit is 1, if that row didn't stand there yet
		last = (last<<1 | 1) & (n - 1)
		if seen[last] {
			last--
		}
		seen[last] = true
		ends[i] = uint32(last & 1)
	}
	d := ring(ends)
	for s := range d.Next { // that no two classes are one
		d.Next[s][s%256] = s
	}
	soon(t, "halves", func() {
		if l := made(t, d); len(l.Next) != n || len(l.Next[0]) != 256 {
			t.Errorf("%d states, %d classes", len(l.Next), len(l.Next[0]))
		}
	})
	c := chance(121)
	soon(t, "halves by chance", func() { wantLeast(t, c, d) })
}

// P11.1, P11.5: great tables by chance: all states unlike, all alike, and many twice.
func TestGreatByChance(t *testing.T) {
	c := chance(122)
	n := api.MaxStates
	d := great(n, func(s, _ int) int { return c.Intn(n) })
	soon(t, "all alike", func() {
		wantMade(t, d, api.DFA{Next: [][]int{{0}}, Found: words(1), Ends: words(1)})
	})
	for s := range d.Ends {
		d.Ends[s] = uint32(c.Intn(2))
	}
	soon(t, "all unlike", func() {
		l := wantLeast(t, c, d)
		if len(l.Next) != n || len(l.Next[0]) != 256 {
			t.Errorf("%d states, %d classes", len(l.Next), len(l.Next[0]))
		}
		wantSame(t, d, l, -1)
	})
	o := copied(d)
	o.Ends[n-1] ^= 1 << 20
	soon(t, "one word unlike", func() {
		if yes, line, e := least.Same(d, o); yes || e != api.OK || len(line) > 4 {
			t.Errorf("%v, %q, %d", yes, line, e)
		}
	})
	small := c.table(200, 12)
	want := slowWords(small)
	soon(t, "many twice", func() {
		blown := c.blown(small, 20)
		if len(blown.Next) < 1000 || !subset.Right(blown) {
			t.Fatalf("%d states", len(blown.Next))
		}
		wantMade(t, blown, made(t, small))
		if l := made(t, blown); len(l.Next) != want {
			t.Errorf("%d states, want %d", len(l.Next), want)
		}
	})
}

// slowWords is how many states the least table has, counted another way: states that are met are marked by their words, then again and again by the marks behind each byte, till there are no more marks.
func slowWords(d api.DFA) int {
	mark := make([]int, len(d.Next))
	met := slowMet(d)
	for count := 0; ; {
		keys := map[string]int{}
		next := make([]int, len(mark))
		for s := range mark {
			var key strings.Builder
			for _, n := range []int{mark[s], int(d.Found[s]), int(d.Ends[s])} {
				key.WriteString(string(rune(n%0xd000)) + string(rune(n/0xd000)))
			}
			for b := range 256 {
				key.WriteString(string(rune(mark[to(d, s, byte(b))])))
			}
			if _, there := keys[key.String()]; !there && met[s] {
				keys[key.String()] = len(keys)
			}
			next[s] = keys[key.String()]
		}
		mark = next
		if len(keys) == count {
			return count
		}
		count = len(keys)
	}
}

// The rules that hold everywhere (W5): the same answers whoever asks, several at once, and again and again.
func TestManyAtOnce(t *testing.T) {
	c := chance(123)
	d := c.blown(united(t, "(^a|(ab?|b){1,4}c*)*(a|b$)?c", "(a|b){3}$", "^b|x", "[0-9]+\\.[0-9]+"), 2)
	o := c.blown(united(t, "(^a|(ab?|b){1,4}c*)*(a|b$)?c", "(a|b){3}$", "^b|x", "[0-9]+\\.[0-8]+"), 2)
	want := made(t, d)
	yes, line, _ := least.Same(d, o)
	if yes || len(line) != 3 || !slices.Contains([]byte(line), '9') {
		t.Fatalf("%v, %q", yes, line)
	}
	var wait sync.WaitGroup
	for range 8 {
		wait.Go(func() {
			for range 10 {
				if l, e := least.Make(d); !sameTable(l, want) || e != api.OK {
					t.Error("Make's answer hangs on who asks")
					return
				}
				if again, told, e := least.Same(d, o); again != yes || told != line || e != api.OK {
					t.Error("Same's answer hangs on who asks")
					return
				}
			}
		})
	}
	wait.Wait()
}
