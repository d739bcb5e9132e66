package ckpt_test

import (
	"bytes"
	"math"
	"slices"
	"sync"
	"testing"
	"time"

	"heron/api"
	"heron/ckpt"
)

// wantSlowEncode asks that Encode answers what the chapter's words say, and tells whether that is an image.
func wantSlowEncode(t *testing.T, marks ...api.Mark) bool {
	t.Helper()
	if !slowMayBe(marks) {
		wantInval(t, marks...)
		return false
	}
	wantImage(t, marks...)
	return true
}

// wantSlowDecode asks that Decode answers what the chapter's words say, and tells whether that is marks.
func wantSlowDecode(t *testing.T, b []byte, many int) bool {
	t.Helper()
	marks, is := slowDecode(b, many)
	if !is {
		wantNone(t, "no image", b, many)
		return false
	}
	if o, e := ckpt.Decode(b, many); e != api.OK || !slices.Equal(o, marks) {
		t.Errorf("Decode(%x, %d) = %v, %v, want %v", b, many, o, e, marks)
	}
	return true
}

// P21.1, P21.2: every mark whose first four numbers, or whose five losses, are edges.
func TestAllEdges(t *testing.T) {
	is := 0
	var walk func(m api.Mark, from, to int)
	walk = func(m api.Mark, from, to int) {
		if from == to {
			if wantSlowEncode(t, m) {
				is++
			}
			wantSlowDecode(t, slowImage(m), 1)
			return
		}
		for _, n := range edges() {
			*slowNumber(&m, from) = n
			walk(m, from+1, to)
		}
	}
	walk(api.Mark{}, 0, 4)
	// Without an inode 3 serials; with one of 2, 2 serials, 3 generations and 3 numbers.
	if is != 3+2*2*3*3 {
		t.Errorf("%d marks may be", is)
	}
	is = 0
	walk(api.Mark{}, 4, 9)
	if is != 3*3*3*3*3 {
		t.Errorf("%d losses may be", is)
	}
}

// P21.1, P21.3: rows of marks by chance, some with a number that may not be, some too long.
func TestMarksByChance(t *testing.T) {
	c := chance(213)
	is := 0
	for range 20_000 {
		marks := make([]api.Mark, c.Intn(11))
		for k := range marks {
			marks[k] = c.mark()
			if c.Intn(12) == 0 {
				*slowNumber(&marks[k], c.Intn(9)) = edges()[c.Intn(7)]
			}
		}
		if wantSlowEncode(t, marks...) {
			is++
		}
	}
	if is < 5000 || is > 19_000 {
		t.Errorf("%d of 20000 may be: the test tells too little", is)
	}
}

// P21.2, P21.3: images of which some numbers were changed and whose sums were made right: many are those of other marks.
func TestImagesByChance(t *testing.T) {
	c := chance(214)
	is := 0
	for range 20_000 {
		marks := c.marks()
		body := slowBody(len(marks), marks...)
		for range c.Intn(3) {
			body[c.Intn(len(body))] ^= byte(1 << c.Intn(8))
		}
		if c.Intn(3) == 0 {
			at := 9 + 8*c.Intn(9*len(marks))
			copy(body[at:], slowBytes(uint64(edges()[c.Intn(7)]), 8))
		}
		for _, many := range []int{len(marks), int(body[8]), c.Intn(10)} {
			if wantSlowDecode(t, summed(body), many) {
				is++
			}
			wantSlowDecode(t, body, many)
		}
	}
	if is < 5000 {
		t.Errorf("%d images: the test tells too little", is)
	}
}

// P21.2, W1: bytes by chance, of all lengths, with and without a front and a sum that are right.
func TestBytesByChance(t *testing.T) {
	c := chance(215)
	is := 0
	for range 40_000 {
		b := c.bytes(160)
		if c.Intn(3) > 0 {
			for i := range b {
				if i%8 > c.Intn(8) {
					b[i] = 0
				}
			}
			b = append(slowFront(c.Intn(4)), b...)
		}
		if c.Intn(2) == 0 {
			b = append(b, make([]byte, 160)...)[:9+72*(1+c.Intn(2))]
		}
		for many := range 4 {
			if wantSlowDecode(t, b, many) {
				t.Errorf("an image without a sum: %x", b)
			}
			if wantSlowDecode(t, summed(b), many) {
				is++
			}
		}
	}
	if is < 100 {
		t.Errorf("%d images: the test tells too little", is)
	}
}

// P21.3: marks that are unlike in one number alone have unlike images, whatever that number is; so have marks in another order, and more or fewer of them.
func TestUnlikeMarks(t *testing.T) {
	c := chance(216)
	for range 1000 {
		marks := c.marks()
		b := wantImage(t, marks...)
		for k := range marks {
			for place := range 9 {
				other := slices.Clone(marks)
				n := slowNumber(&other[k], place)
				*n ^= 1 << c.Intn(62)
				if !slowMayBe(other) {
					continue
				}
				if bytes.Equal(wantImage(t, other...), b) {
					t.Fatalf("%v and %v have one image", marks, other)
				}
			}
		}
		turned := slices.Clone(marks)
		slices.Reverse(turned)
		if !slices.Equal(turned, marks) && bytes.Equal(wantImage(t, turned...), b) {
			t.Fatalf("%v has the same image in another order", marks)
		}
		if len(marks) > 1 && bytes.Equal(wantImage(t, marks[1:]...), b) {
			t.Fatalf("%v has the same image without its first mark", marks)
		}
	}
}

// P21.3: no two of many short rows of small marks have one image.
func TestUnlikeRows(t *testing.T) {
	small := []api.Mark{{}, {Serial: 1}, {Serial: 1, Inode: 1}, {Serial: 1, Inode: 1, Off: 1}, {Serial: 1, Inode: 1, Gen: 1}, {Loss: api.Loss{Missed: 1}}, {Loss: api.Loss{Long: 1}}}
	seen := map[string]int{}
	rows := 0
	var walk func(marks []api.Mark)
	walk = func(marks []api.Mark) {
		if len(marks) > 0 {
			seen[string(wantImage(t, marks...))]++
			rows++
		}
		if len(marks) == 4 {
			return
		}
		for _, m := range small {
			walk(append(slices.Clone(marks), m))
		}
	}
	walk(nil)
	if len(seen) != rows {
		t.Errorf("%d rows have %d images", rows, len(seen))
	}
}

// P21.3: an image with a single byte changed, each into each other one.
func TestOneByteChanged(t *testing.T) {
	c := chance(217)
	for _, marks := range [][]api.Mark{{{}}, {full()}, {{}, full()}, {c.mark(), c.mark(), c.mark()}} {
		b := wantImage(t, marks...)
		for i, was := range b {
			for x := range 256 {
				if byte(x) != was {
					bad := with(b, i, byte(x))
					wantNone(t, "a byte changed", bad, len(marks))
					wantNone(t, "a byte changed", bad, int(bad[8]))
				}
			}
		}
	}
}

// turned is bytes of which, from a bit on, those bits are turned over that are on in a word.
func turned(b []byte, from int, word uint32) []byte {
	changed := bytes.Clone(b)
	for k := range 32 {
		if bit := from + k; word>>k&1 == 1 && bit < 8*len(b) {
			changed[bit/8] ^= 1 << (bit % 8)
		}
	}
	return changed
}

// P21.3: an image changed within 32 bits that stand behind one another, wherever they stand, also across the beginning of the sum and within it.
func TestBitsChanged(t *testing.T) {
	c := chance(218)
	for _, marks := range [][]api.Mark{{{}}, {full()}, {full(), {}, full()}} {
		b := wantImage(t, marks...)
		for from := range 8 * len(b) {
			words := []uint32{1, 3, 1 << 31, 1<<31 | 1, math.MaxUint32, 0xEDB88320, 0x04C11DB7, 0xDB710641, 0x82608EDB}
			for range 20 {
				words = append(words, c.Uint32(), c.Uint32()&c.Uint32()&c.Uint32())
			}
			for _, word := range words {
				if bad := turned(b, from, word); !bytes.Equal(bad, b) {
					wantNone(t, "bits turned over", bad, len(marks))
				}
			}
		}
	}
}

// P21.4: what is handed in is not changed, nor the room behind it.
func TestHandedInStays(t *testing.T) {
	c := chance(219)
	for k := range 2000 {
		row := append(c.marks(), full(), full())
		marks := row[:len(row)-2]
		if k%4 == 0 {
			*slowNumber(&marks[c.Intn(len(marks))], c.Intn(9)) = -1 // refused
		}
		was := slices.Clone(row)
		ckpt.Encode(marks)
		if !slices.Equal(row, was) {
			t.Fatalf("Encode: %v, was %v", row, was)
		}
		b := slowImage(marks...)
		if k%4 == 1 {
			b[c.Intn(len(b))] ^= 1 // refused
		}
		more := append(bytes.Clone(b), c.bytes(300)...)
		kept := bytes.Clone(more)
		ckpt.Decode(more[:len(b)], len(marks))
		if !bytes.Equal(more, kept) {
			t.Fatalf("Decode: %x, was %x", more, kept)
		}
	}
}

// spoil writes into marks, and into the room behind them.
func spoil(marks []api.Mark) {
	marks = marks[:cap(marks)]
	for k := range marks {
		marks[k] = api.Mark{Serial: -9, Inode: -9, Gen: -9, Off: -9, Loss: api.Loss{Missed: -9, Gone: -9, Cuts: -9, Tails: -9, Long: -9}}
	}
}

// spoilBytes writes into bytes, and into the room behind them.
func spoilBytes(b []byte) {
	b = b[:cap(b)]
	for i := range b {
		b[i] = 0xA5
	}
}

// P21.4: what is handed in is not kept: what is written into it behind the call changes neither that answer nor a later one.
func TestNothingIsKept(t *testing.T) {
	c := chance(220)
	for range 1000 {
		marks := c.marks()
		whole, want := slices.Clone(marks), slowImage(marks...)
		b, _ := ckpt.Encode(marks)
		spoil(marks)
		if !bytes.Equal(b, want) || !bytes.Equal(wantImage(t, whole...), want) {
			t.Fatalf("written into what Encode was given: %v", whole)
		}
		handed := bytes.Clone(want)
		got, _ := ckpt.Decode(handed, len(whole))
		spoilBytes(handed)
		if !slices.Equal(got, whole) || !wantSlowDecode(t, want, len(whole)) {
			t.Fatalf("written into what Decode was given: %v, was %v", got, whole)
		}
	}
}

// P21.4: what is answered is new memory, the room behind it too: writing into it changes neither what was handed in nor another answer, given by then or later.
func TestNewMemory(t *testing.T) {
	c := chance(221)
	for range 1000 {
		marks := c.marks()
		was, want := slices.Clone(marks), slowImage(marks...)
		first, _ := ckpt.Encode(marks)
		second, _ := ckpt.Encode(marks)
		spoilBytes(first)
		if !slices.Equal(marks, was) || !bytes.Equal(second, want) || !bytes.Equal(wantImage(t, marks...), want) {
			t.Fatalf("written into the image of %v", was)
		}
		spoilBytes(second)
		clear(first[:cap(first)])
		if slices.ContainsFunc(second[:cap(second)], func(x byte) bool { return x != 0xA5 }) {
			t.Fatalf("two images of %v share memory", was)
		}
		b := bytes.Clone(want)
		one, _ := ckpt.Decode(b, len(was))
		two, _ := ckpt.Decode(b, len(was))
		spoil(one)
		if !bytes.Equal(b, want) || !slices.Equal(two, was) || !wantSlowDecode(t, b, len(was)) {
			t.Fatalf("written into the marks %v", was)
		}
		spoil(two)
		clear(one[:cap(one)])
		if slices.Contains(two[:cap(two)], api.Mark{}) {
			t.Fatalf("two answers of %v share memory", was)
		}
	}
}

// soon asks that something is done within a time that is far more than it takes.
func soon(t *testing.T, what string, do func()) {
	t.Helper()
	done := make(chan bool)
	go func() {
		defer close(done)
		do()
	}()
	select {
	case <-done:
	case <-time.After(60 * time.Second):
		t.Fatalf("%s: no end", what)
	}
}

// W1: every call ends, also on many bytes and on those that tell of more than stands there.
func TestEnds(t *testing.T) {
	soon(t, "many bytes", func() {
		many := make([]byte, 1<<24)
		copy(many, slowFront(255))
		for _, n := range []int{1, 255, 8, math.MaxInt, math.MinInt} {
			if _, e := ckpt.Decode(many, n); e != api.ErrImage {
				t.Errorf("zeros: %v", e)
			}
			if _, e := ckpt.Decode(summed(many), n); e != api.ErrImage {
				t.Errorf("zeros with their sum: %v", e)
			}
		}
	})
	soon(t, "many marks", func() {
		if _, e := ckpt.Encode(make([]api.Mark, 1<<20)); e != api.ErrInval {
			t.Errorf("Encode = %v", e)
		}
	})
	soon(t, "marks that are asked for without an end", func() {
		for _, told := range []int{0, 1, 8, 9, 255} {
			wantNone(t, "nothing behind", summed(slowFront(told)), math.MaxInt)
		}
	})
}

// W4: no bytes and no marks may be nil or empty.
func TestNoneIsEmpty(t *testing.T) {
	for _, marks := range [][]api.Mark{nil, {}} {
		if b, e := ckpt.Encode(marks); len(b) != 0 || e != api.ErrInval {
			t.Errorf("Encode = %x, %v", b, e)
		}
	}
	for _, b := range [][]byte{nil, {}} {
		wantNever(t, "no bytes", b)
	}
}

// W5: the same answers whoever asks, several at once, and again and again.
func TestManyAtOnce(t *testing.T) {
	marks := []api.Mark{full(), {}, {Serial: 2, Inode: 3, Off: 700}}
	want := wantImage(t, marks...)
	bad := with(want, 100, want[100]+1)
	var wait sync.WaitGroup
	for range 8 {
		wait.Go(func() {
			for range 200 {
				b, e := ckpt.Encode(marks)
				o, f := ckpt.Decode(want, 3)
				if !bytes.Equal(b, want) || e != api.OK || !slices.Equal(o, marks) || f != api.OK {
					t.Error("the answer hangs on who asks")
					return
				}
				if _, e := ckpt.Decode(bad, 3); e != api.ErrImage {
					t.Errorf("Decode = %v", e)
					return
				}
			}
		})
	}
	wait.Wait()
}
