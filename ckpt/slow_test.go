package ckpt_test

import (
	"bytes"
	"math"
	"math/rand"

	"heron/api"
)

// What the tests hold the package against: the chapter's words in another way, slow and plain.

// slowNumber is one of a mark's nine numbers, by its place in an image.
func slowNumber(m *api.Mark, place int) *int {
	switch place {
	case 0:
		return &m.Serial
	case 1:
		return &m.Inode
	case 2:
		return &m.Gen
	case 3:
		return &m.Off
	case 4:
		return &m.Loss.Missed
	case 5:
		return &m.Loss.Gone
	case 6:
		return &m.Loss.Cuts
	case 7:
		return &m.Loss.Tails
	}
	return &m.Loss.Long
}

// slowMayBe tells whether marks may be, condition by condition.
func slowMayBe(marks []api.Mark) bool {
	for _, m := range marks {
		for place := range 9 {
			if n := *slowNumber(&m, place); n < 0 || n > 1<<62 {
				return false
			}
		}
		if m.Inode > 0 && m.Serial <= 0 || m.Inode == 0 && m.Gen != 0 || m.Inode == 0 && m.Off != 0 {
			return false
		}
	}
	return 1 <= len(marks) && len(marks) <= 8
}

// slowSum is chapter 1's sum, a bit at a time.
func slowSum(b []byte) uint32 {
	word := uint32(math.MaxUint32)
	for _, x := range b {
		word ^= uint32(x)
		for range 8 {
			out := word & 1
			word >>= 1
			if out == 1 {
				word ^= 3988292384
			}
		}
	}
	return ^word
}

// slowBytes is a number's bytes, the lowest first, each a rest of 256.
func slowBytes(v uint64, width int) []byte {
	var b []byte
	for range width {
		b = append(b, byte(v%256))
		v /= 256
	}
	return b
}

// summed is bytes with their sum behind them.
func summed(b []byte) []byte {
	return append(bytes.Clone(b), slowBytes(uint64(slowSum(b)), 4)...)
}

// slowFront is an image's bytes ahead of its marks.
func slowFront(many int) []byte { return append([]byte("HERONCK1"), byte(many)) }

// slowBody is an image's bytes ahead of its sum, whether the marks may be or not.
func slowBody(many int, marks ...api.Mark) []byte {
	b := slowFront(many)
	for _, m := range marks {
		for place := range 9 {
			b = append(b, slowBytes(uint64(*slowNumber(&m, place)), 8)...)
		}
	}
	return b
}

// slowImage is that of marks, whether they may be or not.
func slowImage(marks ...api.Mark) []byte { return summed(slowBody(len(marks), marks...)) }

// slowDecode is the marks that may be, so many of them, whose image the bytes are, every number out of its own place; false, if there are none.
func slowDecode(b []byte, many int) ([]api.Mark, bool) {
	if many < 1 || many > 8 || len(b) != 13+72*many {
		return nil, false
	}
	body := b[:len(b)-4]
	if !bytes.Equal(summed(body), b) || !bytes.Equal(b[:9], slowFront(many)) {
		return nil, false
	}
	marks := make([]api.Mark, many)
	for k := range marks {
		for place := range 9 {
			at := 9 + 72*k + 8*place
			v := uint64(0)
			for i := 7; i >= 0; i-- {
				v = v*256 + uint64(b[at+i])
			}
			if v > 1<<62 {
				return nil, false
			}
			*slowNumber(&marks[k], place) = int(v)
		}
	}
	return marks, slowMayBe(marks)
}

// chooser makes marks and bytes by chance.
type chooser struct{ *rand.Rand }

func chance(seed int64) chooser { return chooser{rand.New(rand.NewSource(seed))} }

// edges is the numbers next to which a mark's numbers begin and cease to be such.
func edges() []int {
	return []int{math.MinInt, -1, 0, 1, 1 << 62, 1<<62 + 1, math.MaxInt}
}

// number is any that a mark may have, small ones and great ones about as often.
func (c chooser) number() int { return c.Intn(1<<62) >> c.Intn(63) }

// mark is any that may be.
func (c chooser) mark() api.Mark {
	var m api.Mark
	for place := range 9 {
		*slowNumber(&m, place) = c.number()
	}
	if c.Intn(4) == 0 {
		m.Inode = 0
	}
	if m.Inode == 0 {
		m.Gen, m.Off = 0, 0
	} else {
		m.Serial = max(m.Serial, 1)
	}
	return m
}

// marks is any that may be, from 1 to 8.
func (c chooser) marks() []api.Mark {
	marks := make([]api.Mark, 1+c.Intn(8))
	for k := range marks {
		marks[k] = c.mark()
	}
	return marks
}

// bytes is any of at most so many.
func (c chooser) bytes(most int) []byte {
	b := make([]byte, c.Intn(most+1))
	c.Read(b)
	return b
}
