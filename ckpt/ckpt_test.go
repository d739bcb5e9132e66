package ckpt_test

import (
	"bytes"
	"math"
	"slices"
	"testing"

	"heron/api"
	"heron/ckpt"
	"heron/crc"
)

// full is a mark whose nine numbers are unlike, and each byte of them too.
func full() api.Mark {
	return api.Mark{
		Serial: 0x0102030405060708, Inode: 0x1112131415161718, Gen: 0x2122232425262728, Off: 0x3132333435363738,
		Loss: api.Loss{Missed: 0x090A0B0C0D0E0F10, Gone: 0x191A1B1C1D1E1F20, Cuts: 0x292A2B2C2D2E2F30, Tails: 0x393A3B3C3D3E3F3F, Long: 0x0000000000C0FFEE},
	}
}

// wantImage asks that marks that may be have just the image of the chapter's words, and are what it is read as.
func wantImage(t *testing.T, marks ...api.Mark) []byte {
	t.Helper()
	b, e := ckpt.Encode(marks)
	if e != api.OK || !bytes.Equal(b, slowImage(marks...)) {
		t.Fatalf("Encode(%v) = %x, %v, want %x", marks, b, e, slowImage(marks...))
	}
	if o, e := ckpt.Decode(b, len(marks)); e != api.OK || !slices.Equal(o, marks) {
		t.Fatalf("Decode(Encode(%v)) = %v, %v", marks, o, e)
	}
	return b
}

// wantInval asks that marks have no image.
func wantInval(t *testing.T, marks ...api.Mark) {
	t.Helper()
	if b, e := ckpt.Encode(marks); e != api.ErrInval || len(b) != 0 {
		t.Errorf("Encode(%v) = %x, %v, want ErrInval", marks, b, e)
	}
}

// wantNone asks that bytes are no image of so many marks.
func wantNone(t *testing.T, what string, b []byte, many int) {
	t.Helper()
	if marks, e := ckpt.Decode(b, many); e != api.ErrImage || len(marks) != 0 {
		t.Errorf("%s: Decode(%x, %d) = %v, %v, want ErrImage", what, b, many, marks, e)
	}
}

// wantNever asks that bytes are an image of no number of marks.
func wantNever(t *testing.T, what string, b []byte) {
	t.Helper()
	for many := -1; many <= 10; many++ {
		wantNone(t, what, b, many)
	}
}

// with is bytes with one of them made another.
func with(b []byte, at int, x byte) []byte {
	changed := bytes.Clone(b)
	changed[at] = x
	return changed
}

// P21.1, P21.2: the chapter's examples 1 and 4.
func TestExampleImages(t *testing.T) {
	b, e := ckpt.Encode([]api.Mark{{}})
	front := append([]byte{0x48, 0x45, 0x52, 0x4F, 0x4E, 0x43, 0x4B, 0x31, 1}, make([]byte, 72)...)
	if e != api.OK || len(b) != 85 || !bytes.HasPrefix(b, front) {
		t.Fatalf("Encode of a zero mark = %x, %v", b, e)
	}
	if marks, e := ckpt.Decode(b, 1); e != api.OK || !slices.Equal(marks, []api.Mark{{}}) {
		t.Errorf("Decode = %v, %v", marks, e)
	}
	for _, many := range []int{2, 0, -1} {
		wantNone(t, "one mark", b, many)
	}
	two := wantImage(t, api.Mark{Serial: 2, Inode: 3, Off: 700}, api.Mark{})
	numbers := make([]byte, 8*18)
	numbers[0], numbers[8], numbers[24], numbers[25] = 2, 3, 0xBC, 2
	if len(two) != 157 || !bytes.Equal(two[9:153], numbers) {
		t.Errorf("Encode of two marks = %x", two)
	}
}

// P21.1: the chapter's example 2.
func TestExampleInvals(t *testing.T) {
	wantInval(t)
	wantInval(t, make([]api.Mark, 9)...)
	wantInval(t, api.Mark{Loss: api.Loss{Tails: -1}})
	wantInval(t, api.Mark{Loss: api.Loss{Long: 1<<62 + 1}})
	wantInval(t, api.Mark{Inode: 1})
	wantInval(t, api.Mark{Serial: 1, Off: 1})
	const most = 1 << 62
	wantImage(t, api.Mark{Serial: most, Inode: most, Gen: most, Off: most, Loss: api.Loss{Missed: most, Gone: most, Cuts: most, Tails: most, Long: most}})
}

// P21.2: the chapter's examples 3 and 5.
func TestExampleNone(t *testing.T) {
	b := wantImage(t, api.Mark{})
	wantNever(t, "no bytes", nil)
	wantNever(t, "zeros", make([]byte, 84))
	wantNever(t, "without its last byte", b[:84])
	wantNever(t, "with the byte 8 made 2", with(b, 8, 2))
	wantNever(t, "with a byte behind", append(bytes.Clone(b), 0))
	wantNever(t, "a number above 2^62", slowImage(api.Mark{Serial: 1<<62 + 1}))
	wantNever(t, "no Inode, but a Gen", slowImage(api.Mark{Serial: 1, Gen: 1}))
}

// P21.1: an image byte by byte: the first word, how many marks, each number in its place with its lowest byte first.
func TestImageBytes(t *testing.T) {
	want := []byte{
		'H', 'E', 'R', 'O', 'N', 'C', 'K', '1', 2,
		0x08, 0x07, 0x06, 0x05, 0x04, 0x03, 0x02, 0x01, // Serial
		0x18, 0x17, 0x16, 0x15, 0x14, 0x13, 0x12, 0x11, // Inode
		0x28, 0x27, 0x26, 0x25, 0x24, 0x23, 0x22, 0x21, // Gen
		0x38, 0x37, 0x36, 0x35, 0x34, 0x33, 0x32, 0x31, // Off
		0x10, 0x0F, 0x0E, 0x0D, 0x0C, 0x0B, 0x0A, 0x09, // Missed
		0x20, 0x1F, 0x1E, 0x1D, 0x1C, 0x1B, 0x1A, 0x19, // Gone
		0x30, 0x2F, 0x2E, 0x2D, 0x2C, 0x2B, 0x2A, 0x29, // Cuts
		0x3F, 0x3F, 0x3E, 0x3D, 0x3C, 0x3B, 0x3A, 0x39, // Tails
		0xEE, 0xFF, 0xC0, 0x00, 0x00, 0x00, 0x00, 0x00, // Long
		0, 0, 0, 0, 0, 0, 0, 0x40, // Serial 2^62
		1, 0, 0, 0, 0, 0, 0, 0, // Inode
		0xFF, 0xFF, 0xFF, 0xFF, 0xFF, 0xFF, 0xFF, 0x3F, // Gen 2^62 - 1
		0, 1, 0, 0, 0, 0, 0, 0, // Off
		0, 0, 1, 0, 0, 0, 0, 0, // Missed
		0, 0, 0, 1, 0, 0, 0, 0, // Gone
		0, 0, 0, 0, 1, 0, 0, 0, // Cuts
		0, 0, 0, 0, 0, 1, 0, 0, // Tails
		0, 0, 0, 0, 0, 0, 1, 0, // Long
	}
	second := api.Mark{Serial: 1 << 62, Inode: 1, Gen: 1<<62 - 1, Off: 1 << 8, Loss: api.Loss{Missed: 1 << 16, Gone: 1 << 24, Cuts: 1 << 32, Tails: 1 << 40, Long: 1 << 48}}
	b, e := ckpt.Encode([]api.Mark{full(), second})
	if e != api.OK || len(b) != 157 || !bytes.Equal(b[:153], want) {
		t.Errorf("Encode = %x, %v, want %x and a sum", b, e, want)
	}
}

// P21.1: the sum is that of chapter 1, over all that stands ahead of it, its lowest byte first.
func TestSum(t *testing.T) {
	c := chance(211)
	for range 500 {
		b := wantImage(t, c.marks()...)
		end := len(b) - 4
		sum := crc.Of(b[:end])
		if want := []byte{byte(sum), byte(sum >> 8), byte(sum >> 16), byte(sum >> 24)}; !bytes.Equal(b[end:], want) {
			t.Fatalf("the sum of %x is %x, want %x", b[:end], b[end:], want)
		}
	}
	all := wantImage(t, full())
	for _, wrong := range [][]byte{
		slowBytes(uint64(^slowSum(all[:81])), 4), // not turned over
		{all[84], all[83], all[82], all[81]},     // the highest byte first
		slowBytes(uint64(slowSum(all[8:81])), 4), // without the first word
		slowBytes(uint64(slowSum(all[9:81])), 4), // of the marks alone
		{0, 0, 0, 0},
	} {
		wantNever(t, "another sum", append(bytes.Clone(all[:81]), wrong...))
	}
}

// P21.1, P21.2: every number of marks, those that are too many too, with marks of zeros and with others.
func TestHowMany(t *testing.T) {
	for many := range 20 {
		zeros, others := make([]api.Mark, many), slices.Repeat([]api.Mark{full()}, many)
		if many < 1 || many > api.MaxPaths {
			wantInval(t, zeros...)
			wantInval(t, others...)
			wantNever(t, "no marks, or too many", slowImage(zeros...))
			wantNever(t, "no marks, or too many", slowImage(others...))
			wantNone(t, "no marks, or too many", slowImage(others...), many)
			continue
		}
		for _, marks := range [][]api.Mark{zeros, others} {
			if b := wantImage(t, marks...); len(b) != 13+72*many {
				t.Errorf("%d marks: %d bytes", many, len(b))
			}
		}
	}
	wantInval(t, make([]api.Mark, 1+256)...) // as many as one byte tells of 1
	wantInval(t, make([]api.Mark, 100_000)...)
	wantNever(t, "255 marks", slowImage(make([]api.Mark, 255)...))
	wantNone(t, "255 marks", slowImage(make([]api.Mark, 255)...), 255)
	wantNone(t, "257 marks, told as 1", slowImage(make([]api.Mark, 257)...), 257)
}

// P21.1, P21.2: each of the nine numbers at its edges, in each place of one to eight marks.
func TestEachNumberAtItsEdges(t *testing.T) {
	for place := range 9 {
		for _, n := range edges() {
			m := api.Mark{Serial: 1, Inode: 1}
			*slowNumber(&m, place) = n
			right := 0 <= n && n <= 1<<62
			if place == 0 && n == 0 { // no Serial with an Inode
				right = false
			}
			for _, many := range []int{1, 2, 3, 8} {
				for k := range many {
					marks := make([]api.Mark, many)
					marks[k] = m
					if right {
						wantImage(t, marks...)
						continue
					}
					wantInval(t, marks...)
					wantNever(t, "a mark that may not be", slowImage(marks...))
				}
			}
		}
	}
}

// P21.1: how Serial, Inode, Gen and Off hang together.
func TestSerialAndInode(t *testing.T) {
	for _, m := range []api.Mark{
		{}, {Serial: 1}, {Serial: 1 << 62}, {Serial: 1, Inode: 1}, {Serial: 1, Inode: 1 << 62}, {Serial: 9, Inode: 2},
		{Serial: 1, Inode: 1, Gen: 1}, {Serial: 1, Inode: 1, Off: 1}, {Serial: 1, Inode: 1, Gen: 1 << 62, Off: 1 << 62},
		{Loss: api.Loss{Missed: 1, Gone: 2, Cuts: 3, Tails: 4, Long: 5}}, {Serial: 3, Loss: api.Loss{Gone: 1 << 62}},
	} {
		wantImage(t, m)
		wantImage(t, full(), m)
	}
	for _, m := range []api.Mark{
		{Inode: 1}, {Inode: 1 << 62}, {Inode: 1, Gen: 1, Off: 1},
		{Gen: 1}, {Off: 1}, {Gen: 1, Off: 1}, {Serial: 1, Gen: 1}, {Serial: 1, Off: 1}, {Serial: 1, Off: 1 << 62}, {Serial: 1 << 62, Gen: 1 << 62},
		{Serial: -1, Inode: 1}, {Serial: 1, Inode: -1}, {Serial: 1, Inode: -1, Gen: 1}, {Serial: -1}, {Inode: -1},
	} {
		wantInval(t, m)
		wantInval(t, full(), m)
		wantInval(t, m, full())
		wantNever(t, "a mark that may not be", slowImage(m))
		wantNever(t, "a mark that may not be, behind another", slowImage(full(), m))
		wantNever(t, "a mark that may not be, ahead of another", slowImage(m, full()))
	}
}

// P21.2, P21.3: an image is one of its own number of marks alone.
func TestOtherNumbersOfMarks(t *testing.T) {
	for many := 1; many <= api.MaxPaths; many++ {
		b := wantImage(t, slices.Repeat([]api.Mark{full()}, many)...)
		for other := -3; other <= 300; other++ {
			if other != many {
				wantNone(t, "another number", b, other)
			}
		}
		for _, other := range []int{math.MinInt, math.MinInt + many, -many, many + 256, many - 256, many + 1<<32, many + 1<<56, math.MaxInt} {
			wantNone(t, "another number", b, other)
		}
	}
}

// P21.2: an image whose byte 8 tells another number of marks, the sum being right.
func TestByteEight(t *testing.T) {
	for many := 1; many <= api.MaxPaths; many++ {
		marks := slices.Repeat([]api.Mark{full()}, many)
		for told := range 256 {
			if told == many {
				continue
			}
			b := summed(slowBody(told, marks...))
			wantNever(t, "another number is told", b)
			wantNone(t, "another number is told", b, told)
		}
	}
}

// P21.2: another first word, the sum being right.
func TestFirstWord(t *testing.T) {
	body := slowBody(1, full())
	for i := range 8 {
		for x := range 256 {
			if byte(x) != body[i] {
				wantNever(t, "another first word", summed(with(body, i, byte(x))))
			}
		}
	}
	for _, word := range []string{"", "HERONCK", "HERONCK2", "HERONDF1", "heronck1", "1KCNOREH", "HERONCK1\x00", "\x00HERONCK1", "HERONCK1HERONCK1"} {
		wantNever(t, word, summed(append([]byte(word), body[8:]...)))
	}
}

// P21.2, P21.3: an image of which bytes are left out at its end or at its beginning, at every place, also where the sum is made right.
func TestBytesLeftOut(t *testing.T) {
	for _, marks := range [][]api.Mark{{{}}, {full()}, {full(), {}}, make([]api.Mark, 8)} {
		b := wantImage(t, marks...)
		for i := range b {
			wantNever(t, "without its end", b[:i])
			wantNever(t, "without its beginning", b[i+1:])
			if i <= len(b)-5 { // with one byte less than its body at least
				wantNever(t, "without its end, the sum being right", summed(b[:i]))
				wantNever(t, "without its beginning, the sum being right", summed(b[i+1:len(b)-4]))
			}
		}
	}
}

// P21.2, P21.3: an image with bytes ahead of it, behind it, or behind its marks, also where the sum is made right.
func TestBytesMore(t *testing.T) {
	c := chance(212)
	for _, marks := range [][]api.Mark{{{}}, {full()}, {{}, full()}, make([]api.Mark, 7), make([]api.Mark, 8)} {
		b := wantImage(t, marks...)
		rows := [][]byte{{0}, {255}, make([]byte, 4), make([]byte, 71), make([]byte, 72), make([]byte, 73), make([]byte, 144), b, b[9:81], {0x21, 0x44, 0xDF, 0x1C}}
		for range 40 {
			rows = append(rows, append(c.bytes(80), 7))
		}
		for _, x := range rows {
			wantNever(t, "bytes behind", append(bytes.Clone(b), x...))
			wantNever(t, "bytes ahead", append(bytes.Clone(x), b...))
			wantNever(t, "bytes behind the marks", summed(append(bytes.Clone(b[:len(b)-4]), x...)))
			wantNever(t, "bytes behind, and the sum of all", summed(append(bytes.Clone(b), x...)))
		}
	}
}

// P21.2: bytes without a mark's numbers, with sums that are right.
func TestFewBytes(t *testing.T) {
	for _, b := range [][]byte{{}, {0}, {0, 0, 0}, {0, 0, 0, 0}, make([]byte, 5), make([]byte, 13), make([]byte, 85), bytes.Repeat([]byte{255}, 85), []byte("HERONCK1"), []byte("HERONCK1\x01")} {
		wantNever(t, "few bytes", b)
		wantNever(t, "few bytes, summed", summed(b))
	}
	for told := range 256 {
		wantNever(t, "no mark", summed(slowFront(told)))
	}
}

// P21.2: a number above 2^62 in each place, the sum being right: those that a signed number tells as below 0 too.
func TestNumbersTooGreat(t *testing.T) {
	body := slowBody(2, full(), full())
	for at := 9; at < len(body); at += 8 {
		for _, v := range []uint64{1<<62 + 1, 1<<62 + 1<<61, 1<<63 - 1, 1 << 63, 1<<63 + 1, 1<<63 + 1<<62, math.MaxUint64} {
			bad := bytes.Clone(body)
			copy(bad[at:], slowBytes(v, 8))
			wantNever(t, "a number too great", summed(bad))
		}
		right := bytes.Clone(body)
		copy(right[at:], slowBytes(1<<62, 8))
		if _, e := ckpt.Decode(summed(right), 2); e != api.OK {
			t.Errorf("2^62 at %d: %v", at, e)
		}
	}
}
