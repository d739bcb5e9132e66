package rec

import (
	"bytes"
	"math/rand"
	"slices"
	"strings"
	"sync"
	"testing"

	"heron/api"
)

const (
	greatestInt = int(^uint(0) >> 1)
	leastInt    = -greatestInt - 1
)

// noWidths is numbers of bytes that are no width: next to the widths, and such that eight times them comes back to one.
var noWidths = []int{0, 9, 10, 16, 64, 255, 256, 257, 1 << 29, 1<<29 + 1, greatestInt, -1, -2, -8, -9, leastInt, leastInt + 1}

// slowBytes is a number's bytes by the chapter's words: the lowest first, each a rest of 256.
func slowBytes(v uint64, n int) []byte {
	b := []byte{}
	for len(b) < n {
		b = append(b, byte(v%256))
		v /= 256
	}
	return b
}

// greatest is the greatest number of a width.
func greatest(n int) uint64 {
	v := uint64(0)
	for range n {
		v = v*256 + 255
	}
	return v
}

// numbersOf is numbers that have a width: its edges, single bits, those with every byte unlike, and others.
func numbersOf(n int) []uint64 {
	most := greatest(n)
	list := []uint64{0, 1, 127, 128, 254, 255, most / 2, most/2 + 1, most - 1, most, 0x0102030405060708 & most, 0xF1E2D3C4B5A69788 & most}
	for i := range 8 * n {
		list = append(list, 1<<i, most^1<<i)
	}
	source := rand.New(rand.NewSource(int64(n)))
	for range 50 {
		list = append(list, source.Uint64()&most)
	}
	return list
}

// texts is texts of many lengths and bytes, none of them twice.
func texts() []string {
	all := make([]byte, 256)
	for i := range all {
		all[i] = byte(i)
	}
	return []string{
		"", "a", "b", "ab", "ba", "aa", "\x00", "\x00\x00", "\x00\x00\x00\x00", "\x01\x00\x00\x00a", "\xff\xfe", "\n", "h\u00e9ron",
		string(all), strings.Repeat("x", 255), strings.Repeat("x", 256), strings.Repeat("x", 257),
		strings.Repeat("\x00", 65535), strings.Repeat("\xff", 65536), strings.Repeat("long ", 40000),
	}
}

func numBytes(t *testing.T, v uint64, n int) []byte {
	t.Helper()
	b, e := Num(v, n)
	if e != api.OK {
		t.Fatalf("Num(%d, %d): %v", v, n, e)
	}
	return b
}

func wantNum(t *testing.T, r *Reader, n int, want uint64, err api.Errno) {
	t.Helper()
	if v, e := r.Num(n); v != want || e != err {
		t.Errorf("Num(%d) = %d, %v, want %d, %v", n, v, e, want, err)
	}
}

func wantText(t *testing.T, r *Reader, want string, err api.Errno) {
	t.Helper()
	if s, e := r.Text(); s != want || e != err {
		t.Errorf("Text() = %.40q, %v, want %.40q, %v", s, e, want, err)
	}
}

func wantTake(t *testing.T, r *Reader, n int, want string, err api.Errno) {
	t.Helper()
	if b, e := r.Take(n); string(b) != want || e != err {
		t.Errorf("Take(%d) = %.40q, %v, want %.40q, %v", n, b, e, want, err)
	}
}

func wantLeft(t *testing.T, r *Reader, want int) {
	t.Helper()
	if n := r.Left(); n != want {
		t.Errorf("Left() = %d, want %d", n, want)
	}
}

// P2.1, the examples.
func TestNumExamples(t *testing.T) {
	for _, c := range []struct {
		v    uint64
		n    int
		want []byte
		err  api.Errno
	}{
		{258, 2, []byte{2, 1}, api.OK},
		{258, 3, []byte{2, 1, 0}, api.OK},
		{1<<64 - 1, 8, []byte{255, 255, 255, 255, 255, 255, 255, 255}, api.OK},
		{0, 1, []byte{0}, api.OK},
		{258, 1, nil, api.ErrWide},
		{0, 0, nil, api.ErrWide},
		{0, 9, nil, api.ErrWide},
		{0, -1, nil, api.ErrWide},
	} {
		if b, e := Num(c.v, c.n); e != c.err || !bytes.Equal(b, c.want) {
			t.Errorf("Num(%d, %d) = %v, %v, want %v, %v", c.v, c.n, b, e, c.want, c.err)
		}
	}
}

// P2.1: numbers of every width, laid in it and in every wider one.
func TestNumEveryWidth(t *testing.T) {
	for has := 1; has <= 8; has++ {
		for _, v := range numbersOf(has) {
			for n := has; n <= 8; n++ {
				if b, e := Num(v, n); e != api.OK || !bytes.Equal(b, slowBytes(v, n)) {
					t.Fatalf("Num(%d, %d) = %v, %v, want %v", v, n, b, e, slowBytes(v, n))
				}
			}
		}
	}
}

// P2.1: the greatest number of a width has it, the next one has not; neither has any one greater still.
func TestNumJustTooWide(t *testing.T) {
	for n := 1; n <= 7; n++ {
		most := greatest(n)
		if b, e := Num(most, n); e != api.OK || !bytes.Equal(b, bytes.Repeat([]byte{255}, n)) {
			t.Errorf("Num(%d, %d) = %v, %v", most, n, b, e)
		}
		for _, v := range []uint64{most + 1, most + 2, most * 2, 1 << 63, 1<<64 - 1} {
			if b, e := Num(v, n); e != api.ErrWide || len(b) != 0 {
				t.Errorf("Num(%d, %d) = %v, %v, want ErrWide", v, n, b, e)
			}
		}
	}
}

// P2.1: a number that is no width is refused, whatever is to be laid in it.
func TestNumNoWidth(t *testing.T) {
	for _, n := range noWidths {
		for _, v := range []uint64{0, 1, 255, 256, 1<<64 - 1} {
			if b, e := Num(v, n); e != api.ErrWide || len(b) != 0 {
				t.Errorf("Num(%d, %d) = %v, %v, want ErrWide", v, n, b, e)
			}
		}
	}
}

// P2.2, the examples, and texts whose lengths need more than one byte.
func TestText(t *testing.T) {
	if b := Text("ab"); !bytes.Equal(b, []byte{2, 0, 0, 0, 'a', 'b'}) {
		t.Errorf("Text(ab) = %v", b)
	}
	if b := Text(""); !bytes.Equal(b, []byte{0, 0, 0, 0}) {
		t.Errorf("Text of none = %v", b)
	}
	long := strings.Repeat("z", 1<<24+1<<16+3)
	if b := Text(long); !bytes.Equal(b[:4], []byte{3, 0, 1, 1}) || string(b[4:]) != long {
		t.Errorf("Text of a long one begins with %v and has %d bytes", b[:4], len(b))
	}
	for _, s := range texts() {
		if b := Text(s); !bytes.Equal(b[:4], slowBytes(uint64(len(s)), 4)) || string(b[4:]) != s {
			t.Errorf("Text(%.20q) begins with %v and has %d bytes", s, b[:4], len(b))
		}
	}
}

// P2.3 to P2.7: the third example.
func TestReaderExample(t *testing.T) {
	r := Read([]byte{2, 1, 0, 0, 0, 0x61, 7})
	wantLeft(t, r, 7)
	wantNum(t, r, 1, 2, api.OK)
	wantText(t, r, "a", api.OK)
	wantLeft(t, r, 1)
	wantNum(t, r, 2, 0, api.ErrShort)
	wantText(t, r, "", api.ErrShort)
	wantTake(t, r, 2, "", api.ErrShort)
	wantTake(t, r, -1, "", api.ErrInval)
	wantNum(t, r, 9, 0, api.ErrWide)
	wantLeft(t, r, 1)
	wantTake(t, r, 0, "", api.OK)
	wantTake(t, r, 1, "\x07", api.OK)
	wantLeft(t, r, 0)
	wantNum(t, r, 1, 0, api.ErrShort)
	wantTake(t, r, 0, "", api.OK)
}

// P2.4, P2.5: the fourth example.
func TestTextThatIsNotThereExample(t *testing.T) {
	r := Read([]byte{5, 0, 0, 0, 0x61})
	wantText(t, r, "", api.ErrShort)
	wantLeft(t, r, 5)
	wantNum(t, r, 4, 5, api.OK)
	wantText(t, Read([]byte{255, 255, 255, 255, 0x61}), "", api.ErrShort)
}

// P2.3: what is written into the bytes, or behind them, after Read is not seen; a second reader of them stands by itself.
func TestReadTakesACopy(t *testing.T) {
	room := []byte("12345678behind")
	b := room[:8]
	r := Read(b)
	for i := range room {
		room[i] = 'x'
	}
	wantLeft(t, r, 8)
	wantTake(t, r, 4, "1234", api.OK)
	room[5] = 'y'
	other := Read(b)
	wantTake(t, r, 4, "5678", api.OK)
	wantTake(t, r, 1, "", api.ErrShort)
	wantTake(t, other, 8, "xxxxxyxx", api.OK)
	wantLeft(t, other, 0)
}

// P2.3: readers of no bytes, in both forms.
func TestReaderOfNoBytes(t *testing.T) {
	for _, b := range [][]byte{nil, {}, []byte("room")[:0]} {
		r := Read(b)
		wantLeft(t, r, 0)
		wantText(t, r, "", api.ErrShort)
		for n := 1; n <= 8; n++ {
			wantNum(t, r, n, 0, api.ErrShort)
		}
		wantTake(t, r, 1, "", api.ErrShort)
		wantTake(t, r, 0, "", api.OK)
		wantTake(t, r, -1, "", api.ErrInval)
		wantLeft(t, r, 0)
	}
}

// P2.4: numbers of every width, with all, more and fewer bytes than they need.
func TestReaderNumEveryWidth(t *testing.T) {
	for n := 1; n <= 8; n++ {
		for _, v := range numbersOf(n) {
			b := slowBytes(v, n)
			r := Read(append(slices.Clone(b), 255, 254))
			wantNum(t, r, n, v, api.OK)
			wantLeft(t, r, 2)
			wantNum(t, r, 2, 0xFEFF, api.OK)
			r = Read(b)
			wantNum(t, r, n, v, api.OK)
			wantLeft(t, r, 0)
			r = Read(b[:n-1])
			wantNum(t, r, n, 0, api.ErrShort)
			wantTake(t, r, n-1, string(b[:n-1]), api.OK)
		}
	}
}

// P2.4: ErrWide comes ahead of ErrShort, and neither takes anything.
func TestReaderNumErrors(t *testing.T) {
	b := []byte("123456789abcdefghi")
	for left := range len(b) + 1 {
		r := Read(b[:left])
		for _, n := range noWidths {
			wantNum(t, r, n, 0, api.ErrWide)
		}
		for n := left + 1; n <= 8; n++ {
			wantNum(t, r, n, 0, api.ErrShort)
		}
		wantLeft(t, r, left)
		wantTake(t, r, left, string(b[:left]), api.OK)
	}
}

// P2.5: texts at the end and ahead of more, the empty one too.
func TestReaderText(t *testing.T) {
	for _, s := range texts() {
		r := Read(slices.Concat(slowBytes(uint64(len(s)), 4), []byte(s), []byte{9}))
		wantText(t, r, s, api.OK)
		wantLeft(t, r, 1)
		wantNum(t, r, 1, 9, api.OK)
		r = Read(append(slowBytes(uint64(len(s)), 4), s...))
		wantText(t, r, s, api.OK)
		wantLeft(t, r, 0)
	}
}

// P2.5: a text with any number of bytes at its end away is refused, and its bytes are still left.
func TestReaderTextCutShort(t *testing.T) {
	b := append([]byte{6, 0, 0, 0}, "heron!"...)
	for left := range len(b) {
		r := Read(b[:left])
		wantText(t, r, "", api.ErrShort)
		wantText(t, r, "", api.ErrShort)
		wantLeft(t, r, left)
		wantTake(t, r, left, string(b[:left]), api.OK)
	}
}

// P2.5: lengths that say more than is left, by one and up to the greatest; those at 2^31 and above would be below 0 as 32 bits with a sign.
func TestReaderTextSaysTooMuch(t *testing.T) {
	for _, behind := range []int{0, 1, 3, 4, 5, 300} {
		said := []uint64{uint64(behind) + 1, uint64(behind) + 2, uint64(behind) + 4, uint64(behind) + 5, 1<<31 - 1, 1 << 31, 1<<31 + 1, 1<<32 - 5, 1<<32 - 4, 1<<32 - 1}
		for i := 9; i < 32; i++ {
			said = append(said, 1<<i, 1<<i+uint64(behind)) // the lower bytes alone would fit
		}
		for _, size := range said {
			b := append(slowBytes(size, 4), bytes.Repeat([]byte{7}, behind)...)
			r := Read(b)
			wantText(t, r, "", api.ErrShort)
			wantLeft(t, r, len(b))
			wantNum(t, r, 4, size, api.OK)
			wantLeft(t, r, behind)
		}
	}
}

// P2.6: Take of none, of some, of all that is left, and of one and many more.
func TestReaderTake(t *testing.T) {
	b := []byte("0123456789")
	for at := range len(b) + 1 {
		for n := range len(b) - at + 1 {
			r := Read(b)
			wantTake(t, r, at, string(b[:at]), api.OK)
			left := len(b) - at
			for _, more := range []int{left + 1, left + 2, 1 << 30, greatestInt - 1, greatestInt} {
				wantTake(t, r, more, "", api.ErrShort)
			}
			for _, below := range []int{-1, -2, -left, leastInt, leastInt + 1} {
				if below < 0 {
					wantTake(t, r, below, "", api.ErrInval)
				}
			}
			wantTake(t, r, 0, "", api.OK)
			wantLeft(t, r, left)
			wantTake(t, r, n, string(b[at:at+n]), api.OK)
			wantLeft(t, r, left-n)
			wantTake(t, r, left-n, string(b[at+n:]), api.OK)
			wantLeft(t, r, 0)
		}
	}
}

// P2.7: Left goes down by what is taken and by nothing else, and asking for it takes nothing.
func TestReaderLeft(t *testing.T) {
	b := slices.Concat(Text("heron"), slowBytes(77, 3), []byte("bytes"), Text(""))
	r := Read(b)
	for _, step := range []struct {
		do    func()
		taken int
	}{
		{func() {}, 0},
		{func() { r.Text() }, 9},
		{func() { r.Num(0) }, 0},
		{func() { r.Num(3) }, 3},
		{func() { r.Take(-5) }, 0},
		{func() { r.Take(100) }, 0},
		{func() { r.Take(5) }, 5},
		{func() { r.Num(5) }, 0},
		{func() { r.Text() }, 4},
		{func() { r.Text() }, 0},
	} {
		was := r.Left()
		step.do()
		wantLeft(t, r, was-step.taken)
		wantLeft(t, r, was-step.taken)
	}
	wantLeft(t, r, 0)
}

// fill writes over bytes and all of the room behind them.
func fill(b []byte, x byte) {
	b = b[:cap(b)]
	for i := range b {
		b[i] = x
	}
}

// P2.8: bytes that were laid share nothing with others, the room behind them too.
func TestLaidIsNewMemory(t *testing.T) {
	for n := 1; n <= 8; n++ {
		first, second := numBytes(t, 5, n), numBytes(t, 5, n)
		fill(first, 0xEE)
		third := numBytes(t, 5, n)
		if !bytes.Equal(second, slowBytes(5, n)) || !bytes.Equal(third, slowBytes(5, n)) {
			t.Errorf("Num(5, %d): what is written into one answer is seen in others: %v, %v", n, second, third)
		}
	}
	for _, s := range []string{"", "heron"} {
		want := append(slowBytes(uint64(len(s)), 4), s...)
		first, second := Text(s), Text(s)
		fill(first, 0xEE)
		if third := Text(s); !bytes.Equal(second, want) || !bytes.Equal(third, want) {
			t.Errorf("Text(%q): what is written into one answer is seen in others: %v, %v", s, second, third)
		}
	}
}

// P2.8: what was taken never reaches what lies behind it, nor what was taken ahead of it, by no room that it has.
func TestTakenReachesNothingElse(t *testing.T) {
	text := "a text behind"
	b := slices.Concat([]byte("onetwo"), slowBytes(1<<40+3, 6), Text(text), []byte("end"))
	r := Read(b)
	none, _ := r.Take(0)
	fill(none, 1)
	one, _ := r.Take(3)
	fill(append(one, "over what lies behind it"...), 2)
	fill(one, 2)
	two, _ := r.Take(3)
	if string(two) != "two" {
		t.Errorf("what is written behind an answer is seen in the next: %q", two)
	}
	fill(two, 3)
	wantNum(t, r, 6, 1<<40+3, api.OK)
	again, _ := r.Take(0)
	fill(append(again, "far over what is left of the bytes"...), 4)
	wantText(t, r, text, api.OK)
	end, _ := r.Take(3)
	fill(append(end, 'x'), 5)
	if string(one) != "\x02\x02\x02" || string(two) != "\x03\x03\x03" || string(end) != "end" {
		t.Errorf("answers share memory: %q, %q, %q", one, two, end)
	}
}

// P2.8: a text that was answered stays as it is, whatever is done to other answers.
func TestTextStaysAsItIs(t *testing.T) {
	b := slices.Concat(Text("heron"), []byte("bytes"))
	r := Read(b)
	s, _ := r.Text()
	fill(b, 'x')
	taken, _ := r.Take(5)
	if string(taken) != "bytes" {
		t.Errorf("Take(5) = %q", taken)
	}
	fill(taken, 'y')
	if s != "heron" {
		t.Errorf("the text is now %q", s)
	}
}

// P2.8: what is handed in, and the room behind it, stays as it was, also when answers are written into.
func TestNothingHandedInIsChanged(t *testing.T) {
	room := slices.Concat(slowBytes(9, 2), Text("heron"), []byte("bytes"), []byte("the room behind"))
	was := slices.Clone(room)
	b := room[:16]
	r := Read(b)
	if !bytes.Equal(room, was) {
		t.Error("Read changes what is handed in")
	}
	r.Num(2)
	r.Text()
	r.Take(-1)
	taken, _ := r.Take(5)
	fill(append(taken, "over what lies behind"...), 0xEE)
	fill(taken, 0xEE)
	none, _ := r.Take(0)
	fill(append(none, 1, 2, 3), 0xEE)
	if !bytes.Equal(room, was) {
		t.Errorf("what was handed in is now %q", room)
	}
}

// P2.8, W2: beside an error the other answer is its zero value.
func TestNothingBesideAnError(t *testing.T) {
	r := Read([]byte{3, 0, 0, 0, 'a', 'b'})
	for _, n := range noWidths {
		if v, e := r.Num(n); v != 0 || e != api.ErrWide {
			t.Errorf("Num(%d) = %d, %v", n, v, e)
		}
	}
	for _, n := range []int{7, 8} {
		if v, e := r.Num(n); v != 0 || e != api.ErrShort {
			t.Errorf("Num(%d) = %d, %v", n, v, e)
		}
	}
	for _, n := range []int{-1, 7} {
		if b, e := r.Take(n); len(b) != 0 || cap(b) != 0 || e == api.OK {
			t.Errorf("Take(%d) = %v with room for %d, %v", n, b, cap(b), e)
		}
	}
	if s, e := r.Text(); s != "" || e != api.ErrShort {
		t.Errorf("Text() = %q, %v", s, e)
	}
	wantTake(t, r, 6, "\x03\x00\x00\x00ab", api.OK)
}

// laid is one thing of a row: a number of a width, or a text (width 0), or bytes (width -1).
type laid struct {
	width int
	v     uint64
	s     string
}

func (l laid) bytes(t *testing.T) []byte {
	switch l.width {
	case 0:
		return Text(l.s)
	case -1:
		return []byte(l.s)
	}
	return numBytes(t, l.v, l.width)
}

func (l laid) want(t *testing.T, r *Reader) {
	t.Helper()
	switch l.width {
	case 0:
		wantText(t, r, l.s, api.OK)
	case -1:
		wantTake(t, r, len(l.s), l.s, api.OK)
	default:
		wantNum(t, r, l.width, l.v, api.OK)
	}
}

// anyRow is a row of things of all kinds.
func anyRow(source *rand.Rand) []laid {
	row := make([]laid, source.Intn(30))
	for i := range row {
		width := source.Intn(10) - 1
		row[i] = laid{width: width}
		if width > 0 {
			row[i].v = source.Uint64() & greatest(width) >> source.Intn(8*width)
			continue
		}
		s := make([]byte, source.Intn(20))
		source.Read(s)
		row[i].s = string(s)
	}
	return row
}

// P2.9: rows of things are taken out again in their order, also with refused calls between, and nothing is left.
func TestLaidIsTakenOutAgain(t *testing.T) {
	source := rand.New(rand.NewSource(2))
	for range 2000 {
		row := anyRow(source)
		var b []byte
		for _, l := range row {
			b = append(b, l.bytes(t)...)
		}
		r := Read(b)
		for _, l := range row {
			wantNum(t, r, 9, 0, api.ErrWide)
			wantTake(t, r, -1, "", api.ErrInval)
			wantTake(t, r, r.Left()+1, "", api.ErrShort)
			l.want(t, r)
		}
		wantLeft(t, r, 0)
		if t.Failed() {
			t.Fatalf("the row %+v", row)
		}
	}
}

// P2.9: unlike numbers of one width have unlike bytes, each as many as the width.
func TestUnlikeNumbersAreUnlike(t *testing.T) {
	for n := 1; n <= 8; n++ {
		list := numbersOf(n)
		if n <= 2 {
			list = nil
			for v := range greatest(n) + 1 {
				list = append(list, v)
			}
		}
		seen := map[string]uint64{}
		for _, v := range list {
			b := numBytes(t, v, n)
			if other, ok := seen[string(b)]; ok && other != v || len(b) != n {
				t.Fatalf("width %d: %d and %d have the bytes %v", n, v, other, b)
			}
			seen[string(b)] = v
		}
	}
}

// P2.9: unlike texts have unlike bytes, and no text's bytes begin those of another one.
func TestNoTextBeginsAnother(t *testing.T) {
	list := texts()
	for i := range 200 {
		list = append(list, strings.Repeat("\x00", i+5), strings.Repeat("a", i+3))
	}
	rows := make([][]byte, len(list))
	for i, s := range list {
		rows[i] = Text(s)
	}
	for i, one := range rows {
		for k, two := range rows {
			if i != k && bytes.HasPrefix(two, one) {
				t.Fatalf("the bytes of %.20q begin those of %.20q", list[i], list[k])
			}
		}
	}
}

// W5: readers of the same bytes in several goroutines don't know of each other.
func TestManyAtOnce(t *testing.T) {
	b := slices.Concat(slowBytes(258, 2), Text("heron"), []byte("bytes"))
	var all sync.WaitGroup
	for range 8 {
		all.Go(func() {
			for range 200 {
				r := Read(b)
				wantNum(t, r, 2, 258, api.OK)
				wantText(t, r, "heron", api.OK)
				taken, _ := r.Take(5)
				if string(taken) != "bytes" {
					t.Errorf("Take(5) = %q", taken)
				}
				fill(taken, 0)
			}
		})
	}
	all.Wait()
}
