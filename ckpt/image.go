package ckpt

import (
	"heron/api"
	"heron/crc"
	"heron/rec"
)

// firstWord tells an image from other files, and this form of one from later forms.
const firstWord = "HERONCK1"

// How many bytes the numbers of an image have.
const (
	manyWidth = 1
	markWidth = 8 // of each of a mark's
	sumWidth  = 4
)

// image is that of marks that may be.
func image(marks []api.Mark) []byte {
	b := tell([]byte(firstWord), manyWidth, len(marks))
	for _, m := range marks {
		n := numbers(m)
		b = tell(b, markWidth, n[:]...)
	}
	return tell(b, sumWidth, int(crc.Of(b)))
}

// tell lays numbers behind bytes, as many as there are, each in so many bytes.
func tell(b []byte, width int, list ...int) []byte {
	for _, n := range list {
		number, _ := rec.Num(uint64(n), width) // what marks that may be have, and their sum, is never too wide
		b = append(b, number...)
	}
	return b
}

// sumIsRight tells whether bytes end with the sum of those ahead of it.
func sumIsRight(b []byte) bool {
	if len(b) < sumWidth {
		return false
	}
	end := len(b) - sumWidth
	sum, _ := rec.Read(b[end:]).Num(sumWidth)
	return sum == uint64(crc.Of(b[:end]))
}

// read is the marks, such as may be or not, that the bytes of an image ahead of its sum tell, and whether these are just as many as it takes.
func read(b []byte) ([]api.Mark, bool) {
	r := rec.Read(b)
	word, e := r.Take(len(firstWord))
	if e != api.OK || string(word) != firstWord {
		return nil, false
	}
	many, e := r.Num(manyWidth)
	if e != api.OK {
		return nil, false
	}
	var marks []api.Mark
reading:
	for range many {
		var n [count]int
		for i := range n {
			v, e := r.Num(markWidth)
			if e != api.OK {
				break reading
			}
			n[i] = int(v) // a greater one than an int may be is below 0 then, and so none that a mark may have
		}
		marks = append(marks, mark(n))
	}
	return marks, uint64(len(marks)) == many && r.Left() == 0
}
