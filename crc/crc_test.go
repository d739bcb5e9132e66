package crc

import (
	"bytes"
	"slices"
	"sync"
	"testing"
)

// bitByBit goes on from a word as the chapter's section Words says it, place by place, so that the table is held against what it stands for.
func bitByBit(word uint32, b []byte) uint32 {
	for _, x := range b {
		word ^= uint32(x)
		for range 8 {
			out := word & 1
			word >>= 1
			if out == 1 {
				word ^= 3988292384
			}
		}
	}
	return word
}

// slowSum is the sum of bytes by the chapter's words alone.
func slowSum(b []byte) uint32 { return ^bitByBit(4294967295, b) }

// fourBytesOf is the four bytes whose sum is a word: 32 places gone back from it.
func fourBytesOf(sum uint32) []byte {
	word := ^sum
	for range 32 {
		if word>>31 == 1 {
			word = (word^3988292384)<<1 | 1
		} else {
			word <<= 1
		}
	}
	word = ^word
	return []byte{byte(word), byte(word >> 8), byte(word >> 16), byte(word >> 24)}
}

// row is n bytes that hang on the seed alone.
func row(n int, seed uint32) []byte {
	b := make([]byte, n)
	for i := range b {
		seed = seed*1664525 + 1013904223
		b[i] = byte(seed >> 24)
	}
	return b
}

// words is some words at the edges, each single bit, and others between.
func words() []uint32 {
	w := []uint32{0, 1, 5, 255, 256, 0x7FFFFFFF, 0x80000000, 0xFFFFFFFE, 0xFFFFFFFF, 0xEDB88320, 0x12477CDF}
	for i := range 32 {
		w = append(w, 1<<i, ^uint32(1<<i))
	}
	x := uint32(1)
	for range 200 {
		x = x*1664525 + 1013904223
		w = append(w, x)
	}
	return w
}

func joined(pieces [][]byte) []byte { return bytes.Join(pieces, nil) }

// P1.1, the examples.
func TestOfExamples(t *testing.T) {
	for _, c := range []struct {
		b    []byte
		want uint32
	}{
		{nil, 0},
		{[]byte{}, 0},
		{[]byte("a"), 0xE8B7BE43},
		{[]byte("123456789"), 0xCBF43926},
		{[]byte{0, 0, 0, 0}, 0x2144DF1C},
		{[]byte{255, 255, 255, 255}, 0xFFFFFFFF},
		{[]byte("The quick brown fox jumps over the lazy dog"), 0x414FA339},
	} {
		if got := Of(c.b); got != c.want {
			t.Errorf("Of(%q) = %08X, want %08X", c.b, got, c.want)
		}
	}
}

// P1.1: every byte, and every two bytes, so that every word of the table is asked for at both halves.
func TestOfEveryByteAndPair(t *testing.T) {
	for x := range 256 {
		one := []byte{byte(x)}
		if got, want := Of(one), slowSum(one); got != want {
			t.Errorf("Of(%v) = %08X, want %08X", one, got, want)
		}
		for y := range 256 {
			two := []byte{byte(x), byte(y)}
			if got, want := Of(two), slowSum(two); got != want {
				t.Fatalf("Of(%v) = %08X, want %08X", two, got, want)
			}
		}
	}
}

// P1.1: rows of every length up to some hundreds, and long ones.
func TestOfLengths(t *testing.T) {
	all := row(1<<20+3, 7)
	lengths := []int{4095, 4096, 4097, 65535, 65536, 65537, 1 << 20, 1<<20 + 3}
	for n := range 300 {
		lengths = append(lengths, n)
	}
	for _, n := range lengths {
		for _, b := range [][]byte{all[:n], all[len(all)-n:], make([]byte, n), bytes.Repeat([]byte{255}, n)} {
			if got, want := Of(b), slowSum(b); got != want {
				t.Errorf("Of of %d bytes = %08X, want %08X", n, got, want)
			}
		}
	}
}

// P1.1, "What four places do": the table's words are those of the chapter's rule.
func TestHalves(t *testing.T) {
	for i, got := range halves {
		want := uint32(i)
		for range 4 {
			out := want & 1
			want >>= 1
			if out == 1 {
				want ^= 3988292384
			}
		}
		if got != want {
			t.Errorf("halves[%d] = %08X, want %08X", i, got, want)
		}
	}
}

// P1.2, the examples.
func TestMoreExamples(t *testing.T) {
	if got := More(0, []byte("123456789")); got != 0xCBF43926 {
		t.Errorf("More(0, ..) = %08X", got)
	}
	if got := More(Of([]byte("1234")), []byte("56789")); got != 0xCBF43926 {
		t.Errorf("More(Of(1234), 56789) = %08X", got)
	}
	if got := More(5, nil); got != 5 {
		t.Errorf("More(5, none) = %08X", got)
	}
}

// P1.2: bytes cut at every place, in two and in three.
func TestMoreCutEverywhere(t *testing.T) {
	b := row(61, 3)
	want := slowSum(b)
	for i := range len(b) + 1 {
		for j := i; j <= len(b); j++ {
			if got := More(More(Of(b[:i]), b[i:j]), b[j:]); got != want {
				t.Fatalf("cut at %d and %d: %08X, want %08X", i, j, got, want)
			}
		}
	}
}

// P1.2: every word is the sum of some four bytes, and is gone on from as theirs.
func TestMoreFromAnyWord(t *testing.T) {
	behind := [][]byte{nil, {}, {0}, {255}, []byte("a"), []byte("123456789"), row(40, 9)}
	for _, sum := range words() {
		front := fourBytesOf(sum)
		if got := Of(front); got != sum {
			t.Fatalf("Of(%v) = %08X, want %08X", front, got, sum)
		}
		for _, b := range behind {
			want := slowSum(joined([][]byte{front, b}))
			if got := More(sum, b); got != want || got != ^bitByBit(^sum, b) {
				t.Errorf("More(%08X, %v) = %08X, want %08X", sum, b, got, want)
			}
		}
	}
}

// P1.3, the examples, and no piece or empty ones in every form.
func TestAllExamples(t *testing.T) {
	if got := All([]byte("12"), nil, []byte("3456789")); got != 0xCBF43926 {
		t.Errorf("All(12, none, 3456789) = %08X", got)
	}
	for i, got := range []uint32{All(), All(nil...), All([][]byte{}...), All(nil), All([]byte{}), All(nil, []byte{}, nil)} {
		if got != 0 {
			t.Errorf("none, form %d: %08X, want 0", i, got)
		}
	}
	if got := All(nil, []byte{}, []byte("a"), nil, []byte{}); got != 0xE8B7BE43 {
		t.Errorf("a among empty pieces: %08X", got)
	}
	if got := All([]byte("a")); got != 0xE8B7BE43 {
		t.Errorf("one piece: %08X", got)
	}
}

// P1.3: the order counts; a piece may come twice, and pieces may lie over one another.
func TestAllOrderAndSharedPieces(t *testing.T) {
	if All([]byte("ab"), []byte("cd")) == All([]byte("cd"), []byte("ab")) {
		t.Error("the order of pieces does not count")
	}
	b := []byte("123456789")
	pieces := [][]byte{b[2:5], b[2:5], b, b[4:], b[:0]}
	if got, want := All(pieces...), slowSum(joined(pieces)); got != want {
		t.Errorf("shared pieces: %08X, want %08X", got, want)
	}
}

// cutBy cuts bytes behind byte i where bit i of where is on.
func cutBy(b []byte, where int) [][]byte {
	var pieces [][]byte
	from := 0
	for i := range b {
		if where>>i&1 == 1 {
			pieces = append(pieces, b[from:i+1])
			from = i + 1
		}
	}
	return append(pieces, b[from:])
}

// P1.4: however bytes are cut, with and without empty pieces between.
func TestAllHoweverCut(t *testing.T) {
	b := row(10, 5)
	want := Of(b)
	for where := range 1 << len(b) {
		pieces := cutBy(b, where)
		if got := All(pieces...); got != want {
			t.Fatalf("cut by %b: %08X, want %08X", where, got, want)
		}
		var wide [][]byte
		for _, p := range pieces {
			wide = append(wide, nil, p, []byte{})
		}
		if got := All(wide...); got != want {
			t.Fatalf("cut by %b with empty pieces: %08X, want %08X", where, got, want)
		}
	}
}

// P1.3, P1.4: many pieces.
func TestAllManyPieces(t *testing.T) {
	b := row(1<<16, 11)
	var pieces [][]byte
	for i := range b {
		pieces = append(pieces, b[i:i+1], nil)
	}
	if got, want := All(pieces...), slowSum(b); got != want {
		t.Errorf("one byte a piece: %08X, want %08X", got, want)
	}
}

// P1.4: More(sum, none) is sum.
func TestMoreOfNone(t *testing.T) {
	for _, sum := range words() {
		if got := More(sum, nil); got != sum {
			t.Errorf("More(%08X, nil) = %08X", sum, got)
		}
		if got := More(sum, []byte{}); got != sum {
			t.Errorf("More(%08X, empty) = %08X", sum, got)
		}
	}
}

// differ is the row with up to 32 bits from bit at on turned over, as the mask says; false: nothing of the mask lies within the row.
func differ(b []byte, at int, mask uint32) ([]byte, bool) {
	c := slices.Clone(b)
	for k := range 32 {
		if i := at + k; mask>>k&1 == 1 && i < 8*len(b) {
			c[i/8] ^= 1 << (i % 8)
		}
	}
	return c, !bytes.Equal(b, c)
}

// P1.4: rows that differ within 32 bits that follow one another have unlike sums, wherever these begin, and stay unlike with the same bytes behind.
func TestDifferWithin32Bits(t *testing.T) {
	masks := words()
	for i := range 32 {
		for j := range i {
			masks = append(masks, 1<<i|1<<j)
		}
	}
	behind := []byte("behind both")
	for _, b := range [][]byte{{0}, {255, 1}, {1, 2, 3, 4}, make([]byte, 9), row(13, 2)} {
		sum, long := Of(b), All(b, behind)
		for at := range 8 * len(b) {
			for _, mask := range masks {
				c, unlike := differ(b, at, mask)
				if unlike && Of(c) == sum {
					t.Fatalf("%v and %v have one sum %08X", b, c, sum)
				}
				if unlike && All(c, behind) == long {
					t.Fatalf("%v and %v with %q behind have one sum %08X", b, c, behind, long)
				}
			}
		}
	}
}

// P1.4: all rows of one and of two bytes have sums of their own, among as many bytes.
func TestShortRowsHaveSumsOfTheirOwn(t *testing.T) {
	seen := map[uint32]int{}
	for v := range 1 << 16 {
		sum := Of([]byte{byte(v), byte(v >> 8)})
		if other, ok := seen[sum]; ok {
			t.Fatalf("rows %04X and %04X have one sum %08X", v, other, sum)
		}
		seen[sum] = v
	}
}

// P1.4: unlike sums, of rows of whatever length, stay unlike when the same bytes come behind.
func TestUnlikeSumsStayUnlike(t *testing.T) {
	sums := words()
	for n := range 40 {
		sums = append(sums, Of(row(n, uint32(n))))
	}
	slices.Sort(sums)
	sums = slices.Compact(sums)
	for _, b := range [][]byte{{0}, {255}, []byte("a"), row(100, 4), make([]byte, 64)} {
		seen := map[uint32]uint32{}
		for _, sum := range sums {
			got := More(sum, b)
			if other, ok := seen[got]; ok {
				t.Fatalf("sums %08X and %08X meet in %08X", sum, other, got)
			}
			seen[got] = sum
		}
	}
}

// P1.5: what is handed in stays as it was, the room behind it and the list of pieces too.
func TestNothingHandedInIsChanged(t *testing.T) {
	room := row(64, 6)
	was := slices.Clone(room)
	b := room[8:40]
	Of(b)
	More(77, b)
	list := [][]byte{b, room[:3], nil, {}, room[60:62]}[:3]
	All(list...)
	if !bytes.Equal(room, was) {
		t.Error("bytes that were handed in, or the room behind them, were changed")
	}
	full := list[:5]
	if &full[0][0] != &room[8] || len(full[0]) != 32 || &full[1][0] != &room[0] || len(full[1]) != 3 ||
		full[2] != nil || full[3] == nil || len(full[3]) != 0 || &full[4][0] != &room[60] || len(full[4]) != 2 {
		t.Error("the list of pieces, or the room behind it, was changed")
	}
}

// P1.5: what is handed in is not kept: later changes of it count in later calls alone, and no call reaches another.
func TestNothingHandedInIsKept(t *testing.T) {
	b := []byte("123456789")
	first := []uint32{Of(b), More(0, b), All(b)}
	b[0] = 'x'
	want := slowSum(b)
	for i, got := range []uint32{Of(b), More(0, b), All(b)} {
		if got != want || first[i] != 0xCBF43926 {
			t.Errorf("call %d: %08X behind %08X, want %08X", i, got, first[i], want)
		}
	}
	b[0] = '1'
	if Of(b) != 0xCBF43926 || Of(nil) != 0 || All() != 0 || More(5, nil) != 5 {
		t.Error("a call before reaches one behind it")
	}
	if n := testing.AllocsPerRun(20, func() { Of(b); More(9, b) }); n != 0 {
		t.Errorf("a call takes %v pieces of memory", n)
	}
}

// P1.5, W5: calls of several goroutines answer as those of one.
func TestManyAtOnce(t *testing.T) {
	b := row(5000, 8)
	want := slowSum(b)
	got := make([]uint32, 8)
	var all sync.WaitGroup
	for i := range got {
		all.Go(func() { got[i] = All(b[:i*500], nil, b[i*500:]) })
	}
	all.Wait()
	for i, sum := range got {
		if sum != want {
			t.Errorf("goroutine %d: %08X, want %08X", i, sum, want)
		}
	}
}
