package ckpt

import "heron/api"

// most is the greatest number of a mark.
const most = 1 << 62

// count is how many numbers a mark has.
const count = 9

// numbers are those of a mark, in the order in which its image has them.
func numbers(m api.Mark) [count]int {
	l := m.Loss
	return [count]int{m.Serial, m.Inode, m.Gen, m.Off, l.Missed, l.Gone, l.Cuts, l.Tails, l.Long}
}

// mark is the one that has these numbers.
func mark(n [count]int) api.Mark {
	loss := api.Loss{Missed: n[4], Gone: n[5], Cuts: n[6], Tails: n[7], Long: n[8]}
	return api.Mark{Serial: n[0], Inode: n[1], Gen: n[2], Off: n[3], Loss: loss}
}

// mayBe tells whether marks are such as a config's paths may have.
func mayBe(marks []api.Mark) bool {
	if len(marks) == 0 || len(marks) > api.MaxPaths {
		return false
	}
	for _, m := range marks {
		if !isMark(m) {
			return false
		}
	}
	return true
}

// isMark tells whether a path's reading may go on at a mark.
func isMark(m api.Mark) bool {
	for _, n := range numbers(m) {
		if n < 0 || n > most {
			return false
		}
	}
	if m.Inode == 0 {
		return m.Gen == 0 && m.Off == 0
	}
	return m.Serial > 0
}
