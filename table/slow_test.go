package table_test

import (
	"encoding/binary"
	"fmt"
	"hash/crc32"
	"math/rand"
	"slices"

	"heron/api"
)

// What the tests hold the package against: the chapter's words in another way, slow and plain.

// slowImage is the bytes of a table's numbers, whether it fits or not: how many states it has are the lists of Next, how many classes the numbers of the first of them.
func slowImage(d api.DFA) []byte {
	classes := 0
	if len(d.Next) > 0 {
		classes = len(d.Next[0])
	}
	return summed(append(front(len(d.Next), classes, d.Class), states(d)...))
}

// front is an image's bytes ahead of those of the first state.
func front(states, classes int, class [256]int) []byte {
	b := []byte{'H', 'E', 'R', 'O', 'N', 'D', 'F', '1'}
	b = append(b, byte(states), byte(states>>8), byte(states>>16), byte(states>>24))
	b = append(b, byte(classes), byte(classes>>8))
	for _, c := range class {
		b = append(b, byte(c))
	}
	return b
}

// states is the bytes of a table's states.
func states(d api.DFA) []byte {
	var b []byte
	for s, next := range d.Next {
		for _, to := range next {
			b = append(b, byte(to), byte(to>>8))
		}
		b = binary.LittleEndian.AppendUint32(b, d.Found[s])
		b = binary.LittleEndian.AppendUint32(b, d.Ends[s])
	}
	return b
}

// summed is bytes with their sum behind them.
func summed(b []byte) []byte {
	return binary.LittleEndian.AppendUint32(slices.Clone(b), crc32.ChecksumIEEE(b))
}

// resummed is an image that was changed, with its sum made right.
func resummed(b []byte) []byte { return summed(b[:len(b)-4]) }

// slowDecode is the table that fits and whose image the bytes are, every number out of its own place; false, if there is none.
func slowDecode(b []byte) (api.DFA, bool) {
	if len(b) < 274 || string(b[:8]) != "HERONDF1" {
		return api.DFA{}, false
	}
	little := binary.LittleEndian
	S, C := int64(little.Uint32(b[8:])), int64(little.Uint16(b[12:]))
	if int64(len(b)) != 274+S*(8+2*C) || crc32.ChecksumIEEE(b[:len(b)-4]) != little.Uint32(b[len(b)-4:]) {
		return api.DFA{}, false
	}
	var d api.DFA
	for k := range d.Class {
		d.Class[k] = int(b[14+k])
	}
	for s := range S {
		own := b[270+s*(8+2*C):]
		var next []int
		for c := range C {
			next = append(next, int(little.Uint16(own[2*c:])))
		}
		d.Next = append(d.Next, next)
		d.Found = append(d.Found, little.Uint32(own[2*C:]))
		d.Ends = append(d.Ends, little.Uint32(own[2*C+4:]))
	}
	if !slowRight(d) {
		return api.DFA{}, false
	}
	return d, true
}

// slowRight tells whether a table fits, condition by condition.
func slowRight(d api.DFA) bool {
	S := len(d.Next)
	if !(1 <= S && S <= 4096) {
		return false
	}
	C := len(d.Next[0])
	if !(1 <= C && C <= 256) || len(d.Found) != S || len(d.Ends) != S {
		return false
	}
	for _, c := range d.Class {
		if !(0 <= c && c <= C-1) {
			return false
		}
	}
	for _, list := range d.Next {
		if len(list) != C {
			return false
		}
		for _, to := range list {
			if !(0 <= to && to <= S-1) {
				return false
			}
		}
	}
	for s, list := range d.Next {
		if d.Found[s]&^d.Ends[s] != 0 {
			return false
		}
		for _, to := range list {
			if d.Found[s]&^d.Found[to] != 0 {
				return false
			}
		}
	}
	return true
}

// slowRun is what the run of a table that fits meets.
func slowRun(d api.DFA, line string) uint32 {
	s := 0
	for i := range len(line) {
		s = d.Next[s][d.Class[line[i]]]
	}
	return d.Ends[s]
}

// copied is a table that shares nothing with the one that it is a copy of.
func copied(d api.DFA) api.DFA {
	next := make([][]int, len(d.Next))
	for s := range next {
		next[s] = slices.Clone(d.Next[s])
	}
	return api.DFA{Class: d.Class, Next: next, Found: slices.Clone(d.Found), Ends: slices.Clone(d.Ends)}
}

// sameTable tells whether two tables are the same, an empty list being the same as none.
func sameTable(a, b api.DFA) bool {
	return a.Class == b.Class && slices.EqualFunc(a.Next, b.Next, slices.Equal[[]int]) && slices.Equal(a.Found, b.Found) && slices.Equal(a.Ends, b.Ends)
}

// tell is a table as text, cut short: the bytes of class 0 are left out.
func tell(d api.DFA) string {
	classes := ""
	for b, c := range d.Class {
		if c != 0 {
			classes += fmt.Sprintf("%q %d ", []byte{byte(b)}, c)
		}
	}
	return fmt.Sprintf("Next %.300s Found %.200s Ends %.200s Class %.300s", fmt.Sprint(d.Next), fmt.Sprint(d.Found), fmt.Sprint(d.Ends), classes)
}

// chooser makes tables and lines by chance.
type chooser struct{ *rand.Rand }

func chance(seed int64) chooser { return chooser{rand.New(rand.NewSource(seed))} }

// line is any line of at most so many bytes.
func (c chooser) line(most int) string {
	b := make([]byte, c.Intn(most+1))
	c.Read(b)
	return string(b)
}

// table is any table that fits: Found was made to grow along Next, and Ends to have it.
func (c chooser) table(states, classes int) api.DFA {
	d := api.DFA{}
	for b := range d.Class {
		d.Class[b] = c.Intn(classes)
	}
	for range states {
		next := make([]int, classes)
		for i := range next {
			next[i] = c.Intn(states)
		}
		d.Next = append(d.Next, next)
		d.Found = append(d.Found, c.Uint32()&c.Uint32()&c.Uint32()&-uint32(c.Intn(4)/3))
		d.Ends = append(d.Ends, c.Uint32())
	}
	for changed := true; changed; {
		changed = false
		for s, next := range d.Next {
			for _, to := range next {
				changed = changed || d.Found[s]&^d.Found[to] != 0
				d.Found[to] |= d.Found[s]
			}
		}
	}
	for s := range d.Ends {
		d.Ends[s] |= d.Found[s]
	}
	return d
}

// small is any table that fits, of few states and classes.
func (c chooser) small() api.DFA { return c.table(1+c.Intn(9), 1+c.Intn(6)) }
