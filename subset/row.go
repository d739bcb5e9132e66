package subset

import (
	"iter"
	"math/bits"
)

const byteBits = 8 // states that one byte tells of

// row is a set of states: state s is in it, if bit s % 8 of byte s / 8 is on. It is of bytes, since a text is made of it for each moment.
type row []byte

// newRow is one that has room for so many states, and has none of them.
func newRow(states int) row { return make(row, (states+byteBits-1)/byteBits) }

func (r row) add(s int) { r[s/byteBits] |= 1 << (s % byteBits) }

func (r row) has(s int) bool { return r[s/byteBits]>>(s%byteBits)&1 == 1 }

// on gives the states that it has, rising.
func (r row) on() iter.Seq[int] {
	return func(yield func(int) bool) {
		for i, word := range r {
			for ; word != 0; word &= word - 1 { // the lowest bit that is on goes out each time
				if !yield(i*byteBits + bits.TrailingZeros8(word)) {
					return
				}
			}
		}
	}
}
