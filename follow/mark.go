package follow

import "heron/api"

// most is the greatest number of a mark.
const most = 1 << 62

// mayBe tells whether a mark may be gone on at.
func mayBe(m api.Mark) bool {
	l := m.Loss
	for _, n := range []int{m.Serial, m.Inode, m.Gen, m.Off, l.Missed, l.Gone, l.Cuts, l.Tails, l.Long} {
		if n < 0 || n > most {
			return false
		}
	}
	if m.Inode == 0 {
		return m.Gen == 0 && m.Off == 0
	}
	return m.Serial > 0
}

// raise counts some more of a loss, which ends at its greatest number.
func raise(loss *int, by int) { *loss += min(by, most-*loss) }
