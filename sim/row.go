package sim

import (
	"iter"
	"math/bits"
)

const wordBits = 64 // states that one word tells of

// row is a set of states: state s is in it, if bit s % 64 of word s / 64 is on.
type row []uint64

// newRow is one that has room for so many states, and has none of them.
func newRow(states int) row { return make(row, (states+wordBits-1)/wordBits) }

func (r row) add(s int) { r[s/wordBits] |= 1 << (s % wordBits) }

func (r row) has(s int) bool { return r[s/wordBits]>>(s%wordBits)&1 == 1 }

// on gives the states that it has, rising.
func (r row) on() iter.Seq[int] {
	return func(yield func(int) bool) {
		for i, word := range r {
			for ; word != 0; word &= word - 1 { // the lowest bit that is on goes out each time
				if !yield(i*wordBits + bits.TrailingZeros64(word)) {
					return
				}
			}
		}
	}
}
