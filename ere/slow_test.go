package ere

import (
	"math/big"
	"regexp"
	"strings"

	"heron/api"
	"heron/octets"
)

// What the tests hold the package against: the chapter's words in another way, without going down and without giving up.

// level is a group that is being read: its '(' (-1: the whole pattern's), its alternatives so far, and the pieces of the last one.
type level struct {
	open   int
	whole  []api.Node
	pieces []api.Node
}

// alternative ends the pieces as one alternative.
func (l *level) alternative() {
	one := api.Node{Kind: api.NodeSeq, Subs: l.pieces}
	if len(l.pieces) == 0 {
		one = api.Node{Kind: api.NodeEmpty}
	}
	if len(l.pieces) == 1 {
		one = l.pieces[0]
	}
	l.whole = append(l.whole, one)
	l.pieces = nil
}

// tree ends the group as one tree.
func (l *level) tree() api.Node {
	l.alternative()
	if len(l.whole) == 1 {
		return l.whole[0]
	}
	return api.Node{Kind: api.NodeAlt, Subs: l.whole}
}

var (
	counter = regexp.MustCompile(`^\{([0-9]{1,3})(,?)([0-9]{0,3})\}`)
	classer = regexp.MustCompile(`(?s)^\[:(.*?):\]`)
)

// slowCounts reads a '{' repeat: how many bytes it has (0: it is none), and its counts.
func slowCounts(rest string) (size, least, most int) {
	m := counter.FindStringSubmatch(rest)
	if m == nil || m[2] == "" && m[3] != "" {
		return 0, 0, 0
	}
	least = slowNumber(m[1])
	switch {
	case m[2] == "":
		most = least
	case m[3] == "":
		most = -1
	default:
		most = slowNumber(m[3])
	}
	if least > 255 || most > 255 || most != -1 && most < least {
		return 0, 0, 0
	}
	return len(m[0]), least, most
}

func slowNumber(text string) int {
	n := 0
	for _, d := range text {
		n = 10*n + int(d-'0')
	}
	return n
}

// slowSet reads the set at a place: its bytes, the place behind it, or a fault.
func slowSet(p string, open int) (in [256]bool, i, at int, e api.Errno) {
	i = open + 1
	not := strings.HasPrefix(p[i:], "^")
	if not {
		i++
	}
	for first := true; ; first = false {
		rest := p[i:]
		if rest == "" {
			return in, 0, open, api.ErrSet
		}
		if rest[0] == ']' && !first {
			break
		}
		if strings.HasPrefix(rest, "[:") {
			m := classer.FindStringSubmatch(rest)
			if m == nil {
				return in, 0, open, api.ErrSet
			}
			a, e := octets.Class(m[1])
			if e != api.OK {
				return in, 0, i, api.ErrClass
			}
			for b := range in {
				in[b] = in[b] || octets.Has(a, byte(b))
			}
			i += len(m[0])
			continue
		}
		if strings.HasPrefix(rest, "[.") || strings.HasPrefix(rest, "[=") {
			return in, 0, i, api.ErrSet
		}
		from, to, size := rest[0], rest[0], 1
		if len(rest) >= 3 && rest[1] == '-' && rest[2] != ']' {
			to, size = rest[2], 3
			if to < from || to == '[' && len(rest) >= 4 && (rest[3] == ':' || rest[3] == '.' || rest[3] == '=') {
				return in, 0, i, api.ErrSet
			}
		}
		for b := int(from); b <= int(to); b++ {
			in[b] = true
		}
		i += size
	}
	for b := range in {
		in[b] = in[b] != not && b != 10
	}
	return in, i + 1, 0, api.OK
}

// slowParse reads a pattern byte by byte, with a row of the groups that are open.
func slowParse(p string) (api.Node, int, api.Errno) {
	if len(p) > 1024 {
		return api.Node{}, 1024, api.ErrLong
	}
	if at := strings.Index(p, "\n"); at != -1 {
		return api.Node{}, at, api.ErrByte
	}
	open := []*level{{open: -1}}
	repeatable := false // whether an atom stands right ahead
	for i := 0; i < len(p); {
		top := open[len(open)-1]
		lay := func(n api.Node, size int, atom bool) {
			top.pieces = append(top.pieces, n)
			i += size
			repeatable = atom
		}
		again := func(size, least, most int) {
			last := len(top.pieces) - 1
			top.pieces[last] = api.Node{Kind: api.NodeTimes, Subs: []api.Node{top.pieces[last]}, Min: least, Max: most}
			i += size
			repeatable = false
		}
		b := p[i]
		if strings.IndexByte("*+?{", b) >= 0 && !repeatable {
			return api.Node{}, i, api.ErrRepeat
		}
		switch b {
		case '^':
			lay(begin(), 1, false)
		case '$':
			lay(end(), 1, false)
		case '|':
			top.alternative()
			i++
			repeatable = false
		case '(':
			if len(open) == 65 {
				return api.Node{}, i, api.ErrDeep
			}
			open = append(open, &level{open: i})
			i++
			repeatable = false
		case ')':
			if len(open) == 1 {
				return api.Node{}, i, api.ErrParen
			}
			open = open[:len(open)-1]
			t := top.tree()
			top = open[len(open)-1]
			lay(t, 1, true)
		case '*':
			again(1, 0, -1)
		case '+':
			again(1, 1, -1)
		case '?':
			again(1, 0, 1)
		case '{':
			size, least, most := slowCounts(p[i:])
			if size == 0 {
				return api.Node{}, i, api.ErrCount
			}
			again(size, least, most)
		case '[':
			in, behind, at, e := slowSet(p, i)
			if e != api.OK {
				return api.Node{}, at, e
			}
			lay(setNode(func(b int) bool { return in[b] }), behind-i, true)
		case '.':
			lay(but(""), 1, true)
		case '\\':
			if i+1 == len(p) || strings.IndexByte(`.[]()*+?{}|^$\/-`, p[i+1]) < 0 {
				return api.Node{}, i, api.ErrEscape
			}
			lay(set(p[i+1:i+2]), 2, true)
		default:
			lay(set(p[i:i+1]), 1, true)
		}
	}
	if len(open) > 1 {
		return api.Node{}, open[len(open)-1].open, api.ErrParen
	}
	t := open[0].tree()
	if slowPlaces(t).Cmp(big.NewInt(2047)) > 0 {
		return api.Node{}, 0, api.ErrBig
	}
	return t, 0, api.OK
}

// slowPlaces is a tree's places as whole numbers, however great.
func slowPlaces(t api.Node) *big.Int {
	num := func(n int) *big.Int { return big.NewInt(int64(n)) }
	sum := num(0)
	for _, sub := range t.Subs {
		sum.Add(sum, slowPlaces(sub))
	}
	switch t.Kind {
	case api.NodeSet, api.NodeBegin, api.NodeEnd:
		return num(1)
	case api.NodeAlt:
		return sum.Add(sum, num(len(t.Subs)+1))
	case api.NodeTimes:
		all := num(0).Mul(sum, num(t.Min))
		if sum.Sign() == 0 {
			return num(0)
		}
		if t.Max == -1 {
			return all.Add(all, sum).Add(all, num(2))
		}
		if t.Max > t.Min {
			return all.Add(all, num(0).Mul(sum, num(t.Max-t.Min))).Add(all, num(1))
		}
		return all
	}
	return sum
}

// answer is what Places is to answer of a tree.
func answer(t api.Node) int {
	n := slowPlaces(t)
	n.Add(n, big.NewInt(1))
	if n.Cmp(big.NewInt(2048)) > 0 {
		return 2049
	}
	return int(n.Int64())
}
