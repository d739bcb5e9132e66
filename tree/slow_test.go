package tree_test

import (
	"fmt"
	"math/big"
	"math/rand"
	"strings"

	"heron/api"
)

// What the tests hold the package against: the chapter's words in other ways, slow and plain.

// slowHas tells whether a byte is in a Set.
func slowHas(a api.Set, b int) bool { return a[b/64]&(1<<(b%64)) != 0 }

// slowTree tells whether a node is a tree, by chapter 4's words.
func slowTree(t api.Node) bool {
	for _, sub := range t.Subs {
		if !slowTree(sub) {
			return false
		}
	}
	rest := t
	rest.Kind, rest.Subs = 0, nil
	bare := same(rest, api.Node{})
	switch t.Kind {
	case api.NodeEmpty, api.NodeBegin, api.NodeEnd:
		return bare && len(t.Subs) == 0
	case api.NodeSet:
		rest.Set = api.Set{}
		return same(rest, api.Node{}) && len(t.Subs) == 0 && !slowHas(t.Set, 10)
	case api.NodeSeq, api.NodeAlt:
		return bare && len(t.Subs) > 1
	case api.NodeTimes:
		ends := t.Max == -1 || t.Max >= t.Min && t.Max <= 255
		return t.Set == api.Set{} && len(t.Subs) == 1 && t.Min >= 0 && t.Min <= 255 && ends
	}
	return false
}

// slowDepth is a tree's depth.
func slowDepth(t api.Node) int {
	most := 0
	for _, sub := range t.Subs {
		most = max(most, slowDepth(sub))
	}
	return most + 1
}

// slowPlaces is a tree's places as whole numbers, however great.
func slowPlaces(t api.Node) *big.Int {
	sum := new(big.Int)
	for _, sub := range t.Subs {
		sum.Add(sum, slowPlaces(sub))
	}
	num := func(n int) *big.Int { return big.NewInt(int64(n)) }
	switch t.Kind {
	case api.NodeSet, api.NodeBegin, api.NodeEnd:
		return num(1)
	case api.NodeAlt:
		return sum.Add(sum, num(len(t.Subs)+1))
	case api.NodeTimes:
		all := new(big.Int).Mul(sum, num(t.Min))
		switch {
		case sum.Sign() == 0:
		case t.Max == -1:
			all.Add(all, sum).Add(all, num(2))
		case t.Max > t.Min:
			all.Add(all, new(big.Int).Mul(sum, num(t.Max-t.Min))).Add(all, num(1))
		}
		return all
	}
	return sum
}

// slowRight tells whether a node is a right tree: its machine's beginning is a place too.
func slowRight(t api.Node) bool {
	return slowTree(t) && slowDepth(t) <= 256 && slowPlaces(t).Cmp(big.NewInt(2047)) <= 0
}

// slowItems is the items of some bytes: the row that is gone through is ended by each byte that isn't of it.
func slowItems(in [256]bool) string {
	told := func(b byte) string {
		if in[b] {
			return string([]byte{b})
		}
		return ""
	}
	all, held := "", []byte{}
	for b := 0; b <= 256; b++ {
		if b < 256 && in[b] && b != ']' && b != '[' && b != '^' && b != '-' {
			held = append(held, byte(b))
			continue
		}
		if len(held) > 2 {
			held = []byte{held[0], '-', held[len(held)-1]}
		}
		all += string(held)
		held = held[:0]
	}
	return told(']') + all + told('[') + told('^') + told('-')
}

// slowSet is a Set's text.
func slowSet(a api.Set) string {
	var in, out [256]bool
	n, last := 0, 0
	for b := range 256 {
		in[b] = slowHas(a, b)
		out[b] = !in[b] && b != 10
		if in[b] {
			n++
			last = b
		}
	}
	switch {
	case n == 255:
		return "."
	case n == 1 && strings.ContainsRune(".[()*+?{|^$\\", rune(last)):
		return "\\" + string([]byte{byte(last)})
	case n == 1:
		return string([]byte{byte(last)})
	case n == 0 || n >= 129:
		return "[^" + slowItems(out) + "]"
	}
	text := "[" + slowItems(in) + "]"
	if strings.HasPrefix(text, "[^-") {
		text = "[-^" + text[3:]
	}
	return text
}

// slowText is a tree's text.
func slowText(t api.Node) string {
	round := map[int]string{
		api.NodeSeq:   fmt.Sprint(api.NodeEmpty, api.NodeSeq, api.NodeAlt),
		api.NodeAlt:   fmt.Sprint(api.NodeAlt),
		api.NodeTimes: fmt.Sprint(api.NodeEmpty, api.NodeBegin, api.NodeEnd, api.NodeSeq, api.NodeAlt, api.NodeTimes),
	}
	var subs []string
	for _, sub := range t.Subs {
		text := slowText(sub)
		if strings.Contains(round[t.Kind], fmt.Sprint(sub.Kind)) {
			text = "(" + text + ")"
		}
		subs = append(subs, text)
	}
	between := map[int]string{api.NodeAlt: "|"}[t.Kind]
	text := strings.Join(subs, between)
	switch t.Kind {
	case api.NodeBegin:
		return "^"
	case api.NodeEnd:
		return "$"
	case api.NodeSet:
		return slowSet(t.Set)
	case api.NodeTimes:
		counts := fmt.Sprintf("{%d,%d}", t.Min, t.Max)
		if t.Min == t.Max {
			counts = fmt.Sprintf("{%d}", t.Min)
		}
		if t.Max == -1 {
			counts = fmt.Sprintf("{%d,}", t.Min)
		}
		if short := map[string]string{"{0,}": "*", "{1,}": "+", "{0,1}": "?"}[counts]; short != "" {
			counts = short
		}
		return text + counts
	}
	return text
}

// slowGroups is how many '(' of a text stand in one another: it goes over what stands behind a backslash, and over sets.
func slowGroups(text string) int {
	open, most := 0, 0
	for i := 0; i < len(text); i++ {
		switch text[i] {
		case '\\':
			i++
		case '[':
			i++
			if text[i] == '^' {
				i++
			}
			i++ // the first item is no end
			for text[i] != ']' {
				i++
			}
		case '(':
			open++
			most = max(most, open)
		case ')':
			open--
		}
	}
	return most
}

// slowPrint is what Print is to answer.
func slowPrint(t api.Node) (string, api.Errno) {
	if !slowRight(t) {
		return "", 50
	}
	text := slowText(t)
	if slowGroups(text) > 64 {
		return "", 47
	}
	if len(text) > 1024 {
		return "", 40
	}
	return text, 0
}

// slowSeq makes a row of plainest trees plain, rule by rule.
func slowSeq(subs []api.Node) api.Node {
	var flat, full, row []api.Node
	for _, sub := range subs {
		if sub.Kind == api.NodeSeq {
			flat = append(flat, sub.Subs...)
		} else {
			flat = append(flat, sub)
		}
	}
	for _, sub := range flat {
		if sub.Kind != api.NodeEmpty {
			full = append(full, sub)
		}
	}
	for i, sub := range full {
		if i > 0 && full[i-1].Kind == sub.Kind && (sub.Kind == api.NodeBegin || sub.Kind == api.NodeEnd) {
			continue
		}
		row = append(row, sub)
	}
	for _, sub := range row {
		if same(sub, nothing()) {
			return nothing()
		}
	}
	if len(row) == 0 {
		return empty()
	}
	if len(row) == 1 {
		return row[0]
	}
	return seq(row...)
}

// slowAlt makes plainest trees' alternatives plain, rule by rule.
func slowAlt(subs []api.Node) api.Node {
	var flat, full, merged, row []api.Node
	for _, sub := range subs {
		if sub.Kind == api.NodeAlt {
			flat = append(flat, sub.Subs...)
		} else {
			flat = append(flat, sub)
		}
	}
	for _, sub := range flat {
		if !same(sub, nothing()) {
			full = append(full, sub)
		}
	}
	first := -1
	for _, sub := range full {
		if sub.Kind == api.NodeSet && first >= 0 {
			for i := range 4 {
				merged[first].Set[i] |= sub.Set[i]
			}
			continue
		}
		if sub.Kind == api.NodeSet {
			first = len(merged)
		}
		merged = append(merged, sub)
	}
	told := map[string]bool{}
	for _, sub := range merged {
		if key := fmt.Sprint(sub); !told[key] {
			told[key] = true
			row = append(row, sub)
		}
	}
	if len(row) == 0 {
		return nothing()
	}
	if len(row) == 1 {
		return row[0]
	}
	return alt(row...)
}

// slowPlain is a right tree's plainest tree.
func slowPlain(t api.Node) api.Node {
	var subs []api.Node
	for _, sub := range t.Subs {
		subs = append(subs, slowPlain(sub))
	}
	switch t.Kind {
	case api.NodeSeq:
		return slowSeq(subs)
	case api.NodeAlt:
		return slowAlt(subs)
	case api.NodeTimes:
		x := subs[0]
		if t.Max == 0 || x.Kind == api.NodeEmpty {
			return empty()
		}
		if same(x, nothing()) {
			if t.Min == 0 {
				return empty()
			}
			return nothing()
		}
		if x.Kind == api.NodeBegin || x.Kind == api.NodeEnd {
			if t.Min == 0 {
				return empty()
			}
			return x
		}
		if t.Min == 1 && t.Max == 1 {
			return x
		}
		if x.Kind == api.NodeTimes && x.Min == 0 && x.Max == -1 {
			return x
		}
		return times(x, t.Min, t.Max)
	}
	return t
}

// slowEnds is the places of a line (bits, the place 0 lowest) to which a tree takes it from one of some places: what is taken is tried out, time by time.
func slowEnds(t api.Node, line string, from uint64) uint64 {
	switch t.Kind {
	case api.NodeBegin:
		return from & 1
	case api.NodeEnd:
		return from & (1 << len(line))
	case api.NodeSet:
		to := uint64(0)
		for i := range len(line) {
			if from>>i&1 == 1 && slowHas(t.Set, int(line[i])) {
				to |= 2 << i
			}
		}
		return to
	case api.NodeSeq:
		for _, sub := range t.Subs {
			from = slowEnds(sub, line, from)
		}
		return from
	case api.NodeAlt:
		to := uint64(0)
		for _, sub := range t.Subs {
			to |= slowEnds(sub, line, from)
		}
		return to
	case api.NodeTimes:
		to := uint64(0)
		most := t.Max
		if most == -1 {
			most = t.Min + 64 // no more than there are places
		}
		for n := 0; n <= most; n++ {
			if n >= t.Min {
				to |= from
			}
			from = slowEnds(t.Subs[0], line, from)
		}
		return to
	}
	return from
}

// slowPieces is all pieces of a line that a tree takes: of each place where they begin, where they end.
func slowPieces(t api.Node, line string) []uint64 {
	var all []uint64
	for i := range len(line) + 1 {
		all = append(all, slowEnds(t, line, 1<<i))
	}
	return all
}

// slowNullable asks a line that has such a place.
func slowNullable(t api.Node, begin, end bool) bool {
	line, at := "xy", 1
	switch {
	case begin && end:
		line, at = "", 0
	case begin:
		line, at = "x", 0
	case end:
		line, at = "x", 1
	}
	return slowEnds(t, line, 1<<at)>>at&1 == 1
}

// The numbers of bytes that are tried out; where one of far or more can be taken, there is no greatest: trees are tried that take fewer, if they have an end.
const (
	far     = 200
	farther = 3 * far
)

// slowSums is the sums of one of some numbers and one of some others.
func slowSums(a, b *big.Int) *big.Int {
	sums := new(big.Int)
	for i := range farther {
		if a.Bit(i) == 1 {
			sums.Or(sums, new(big.Int).Lsh(b, uint(i)))
		}
	}
	limit := new(big.Int).Lsh(big.NewInt(1), farther)
	return sums.And(sums, limit.Sub(limit, big.NewInt(1)))
}

// slowLengths is all numbers of bytes that a tree takes, as bits, up to a bound.
func slowLengths(t api.Node) *big.Int {
	switch t.Kind {
	case api.NodeSet:
		if (t.Set == api.Set{}) {
			return new(big.Int)
		}
		return big.NewInt(2)
	case api.NodeSeq:
		all := big.NewInt(1)
		for _, sub := range t.Subs {
			all = slowSums(all, slowLengths(sub))
		}
		return all
	case api.NodeAlt:
		all := new(big.Int)
		for _, sub := range t.Subs {
			all.Or(all, slowLengths(sub))
		}
		return all
	case api.NodeTimes:
		once, sofar, all := slowLengths(t.Subs[0]), big.NewInt(1), new(big.Int)
		for n := 0; t.Max == -1 || n <= t.Max; n++ {
			before := new(big.Int).Set(all)
			if n >= t.Min {
				all.Or(all, sofar)
			}
			if n > t.Min && all.Cmp(before) == 0 { // nothing new comes any more
				break
			}
			sofar = slowSums(sofar, once)
		}
		return all
	}
	return big.NewInt(1)
}

// slowSpread is the least and the greatest of these numbers.
func slowSpread(t api.Node) (int, int) {
	all := slowLengths(t)
	if all.Sign() == 0 {
		return -1, 0
	}
	most := all.BitLen() - 1
	if most >= far {
		most = -1
	}
	return int(all.TrailingZeroBits()), most
}

// chooser makes trees by chance.
type chooser struct{ *rand.Rand }

// one is one of some numbers.
func (c chooser) one(of ...int) int { return of[c.Intn(len(of))] }

// leaf is a tree without Subs; some come often.
func (c chooser) leaf() api.Node {
	switch c.Intn(12) {
	case 0, 1:
		return empty()
	case 2, 3:
		return begin()
	case 4, 5:
		return end()
	case 6:
		return nothing()
	case 7:
		return c.someSet()
	}
	return set([]string{"a", "b", "ab", "x", "y", "(", "]", "^-"}[c.Intn(8)])
}

// someSet is any Set, of few bytes, of many, of rows.
func (c chooser) someSet() api.Node {
	n := api.Node{Kind: api.NodeSet}
	for range c.one(1, 2, 3, 10, 60) {
		from := c.Intn(256)
		if c.Intn(3) == 0 {
			from = int("][^-\\_Z.,a"[c.Intn(10)])
		}
		for b := from; b < min(256, from+c.one(1, 1, 2, 3, 4, 20)); b++ {
			n.Set[b/64] |= 1 << (b % 64)
		}
	}
	if c.Intn(3) == 0 {
		for i := range n.Set {
			n.Set[i] = ^n.Set[i]
		}
	}
	n.Set[0] &^= 1 << 10
	return n
}

// tree is any tree of at most a depth.
func (c chooser) tree(depth int) api.Node {
	kind := c.Intn(8)
	if depth == 1 || kind < 2 {
		return c.leaf()
	}
	if kind < 4 {
		counts := [][2]int{{0, -1}, {1, -1}, {0, 1}, {0, 0}, {1, 1}, {2, 2}, {2, -1}, {0, 2}, {1, 3}, {2, 3}, {0, 3}}[c.Intn(11)]
		return times(c.tree(depth-1), counts[0], counts[1])
	}
	var subs []api.Node
	for range 2 + c.one(0, 0, 1, 1, 2, 3) {
		subs = append(subs, c.tree(depth-1))
	}
	if kind < 6 {
		return seq(subs...)
	}
	return alt(subs...)
}

// spoil is a tree with one node changed, which may or may not leave it a tree.
func (c chooser) spoil(t api.Node) api.Node {
	if len(t.Subs) > 0 && c.Intn(4) > 0 {
		subs := append([]api.Node(nil), t.Subs...)
		i := c.Intn(len(subs))
		subs[i] = c.spoil(subs[i])
		t.Subs = subs
		return t
	}
	switch c.Intn(6) {
	case 0:
		t.Kind = c.one(-1, 0, 1, 2, 3, 4, 5, 6, 7, 8, 1<<40)
	case 1:
		t.Min = c.one(-1, 0, 1, 2, 255, 256, -1<<63)
	case 2:
		t.Max = c.one(-2, -1, 0, 1, 2, 255, 256, 1<<62)
	case 3:
		t.Set[c.Intn(4)] ^= 1 << c.one(0, 9, 10, 11, 63)
	case 4:
		t.Subs = append([]api.Node{c.leaf()}, t.Subs...)
	case 5:
		t.Subs = t.Subs[:len(t.Subs)/2]
	}
	return t
}
