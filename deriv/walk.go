package deriv

import (
	"heron/api"
	"heron/octets"
)

// walk goes through a line with all trees at once that may take what is left of it. A tree goes on by its first part alone, and leads to other trees without a byte: so at each place there is as much to do as there are trees, and these are some for each place of the pattern, however many rests it has.
type walk struct {
	*keep
	line   string
	start  int
	at     int     // the place where it stands
	here   []int   // the trees that are met there
	behind []int   // those that the byte at it leads to, some of them twice
	met    []int   // of each tree the place where it was met last, and one
	leads  [][]int // of each tree what it leads to without a byte, once that was asked
}

func newWalk(t api.Node, line string) *walk {
	w := &walk{keep: newKeep(), line: line}
	w.start = w.lay(t)
	return w
}

// whole tells whether the start takes the line from its beginning to its end.
func (w *walk) whole() bool {
	w.behind = append(w.behind, w.start)
	for w.at < len(w.line) && len(w.behind) > 0 {
		w.place()
		w.at++
	}
	return w.place()
}

// search tells whether it takes the line from some place to some place.
func (w *walk) search() bool {
	for w.at = range len(w.line) + 1 {
		w.behind = append(w.behind, w.start)
		if w.place() {
			return true
		}
	}
	return false
}

// place meets all that is led to at the place, and tells whether something has been taken there, up to its end.
func (w *walk) place() bool {
	w.here = w.here[:0]
	for _, x := range w.behind {
		w.meet(x)
	}
	w.behind = w.behind[:0]
	for i := 0; i < len(w.here); i++ { // it grows meanwhile
		w.open(w.here[i])
	}
	return w.met[empty] == w.at+1
}

// meet lays a tree behind those that are met at the place, unless it is there.
func (w *walk) meet(x int) {
	if more := len(w.trees) - len(w.met); more > 0 {
		w.met = append(w.met, make([]int, more)...)
		w.leads = append(w.leads, make([][]int, more)...)
	}
	if w.met[x] <= w.at {
		w.met[x] = w.at + 1
		w.here = append(w.here, x)
	}
}

// open goes on from a tree that is met.
func (w *walk) open(x int) {
	first, behind := w.cut(x)
	switch t := &w.trees[first]; t.kind {
	case api.NodeSet:
		if w.at < len(w.line) && octets.Has(t.set, w.line[w.at]) {
			w.behind = append(w.behind, behind)
		}
	case api.NodeBegin:
		if w.at == 0 {
			w.meet(behind)
		}
	case api.NodeEnd:
		if w.at == len(w.line) {
			w.meet(behind)
		}
	case api.NodeAlt, api.NodeTimes:
		if w.leads[x] == nil {
			w.free(x, func(y int) { w.leads[x] = append(w.leads[x], y) })
		}
		for _, y := range w.leads[x] {
			w.meet(y)
		}
	}
}

// free hands on each tree that one leads to without a byte, wherever it is met: its first part is a NodeAlt or a NodeTimes.
func (k *keep) free(x int, do func(y int)) {
	first, behind := k.cut(x)
	t := k.trees[first]
	switch t.kind {
	case api.NodeTimes:
		if t.least == 0 {
			do(behind)
		}
		behind = k.seq(k.times(t.subs[0], oneLess(t.least), oneLess(t.most)), behind)
		fallthrough // once, it is one of its one Sub
	case api.NodeAlt:
		for _, sub := range t.subs {
			do(k.seq(sub, behind))
		}
	}
}
