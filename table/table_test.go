package table_test

import (
	"bytes"
	"fmt"
	"math"
	"slices"
	"strings"
	"sync"
	"testing"
	"time"

	"heron/api"
	"heron/crc"
	"heron/ere"
	"heron/least"
	"heron/nfa"
	"heron/subset"
	"heron/table"
)

// one is the table of the chapter's example 1: one state and one class, rule 0 met at once.
func one() api.DFA {
	return api.DFA{Next: [][]int{{0}}, Found: []uint32{1}, Ends: []uint32{1}}
}

// two is a table of two states and two classes: 'a' has class 1, all others 0.
func two() api.DFA {
	return api.DFA{Class: [256]int{'a': 1}, Next: [][]int{{0, 1}, {1, 1}}, Found: []uint32{0, 1 << 31}, Ends: []uint32{5, 1<<31 | 5}}
}

// wide is a table of so many states and classes whose numbers go up to the greatest that it may have.
func wide(states, classes int) api.DFA {
	d := api.DFA{Found: make([]uint32, states), Ends: make([]uint32, states)}
	for b := range d.Class {
		d.Class[b] = (classes - 1 + b) % classes
	}
	for s := range states {
		next := make([]int, classes)
		for c := range next {
			next[c] = (states - 1 + s*7 + c) % states
		}
		d.Next = append(d.Next, next)
		d.Ends[s] = uint32(s) * 0x01020305
	}
	return d
}

// united is the table of patterns, each with its own rule.
func united(t *testing.T, patterns ...string) api.DFA {
	t.Helper()
	var machines []api.NFA
	for k, p := range patterns {
		n, _, e := ere.Parse(p)
		if e != api.OK {
			t.Fatalf("%q: %v", p, e)
		}
		m, e := nfa.Build(n, k)
		if e != api.OK {
			t.Fatalf("%q: %v", p, e)
		}
		machines = append(machines, m)
	}
	m, e := nfa.Union(machines...)
	if e != api.OK {
		t.Fatalf("%q: %v", patterns, e)
	}
	d, e := subset.Build(m, api.MaxStates)
	if e != api.OK {
		t.Fatalf("%q: %v", patterns, e)
	}
	return d
}

// encoded is the image of a table that fits.
func encoded(t *testing.T, d api.DFA) []byte {
	t.Helper()
	b, e := table.Encode(d)
	if e != api.OK {
		t.Fatalf("Encode(%s): %v", tell(d), e)
	}
	return b
}

// decoded is the table of an image.
func decoded(t *testing.T, b []byte) api.DFA {
	t.Helper()
	d, e := table.Decode(b)
	if e != api.OK {
		t.Fatalf("Decode of %d bytes: %v", len(b), e)
	}
	return d
}

// wantImage asks that a table's image is the one that the chapter's words make, and is read as the table.
func wantImage(t *testing.T, d api.DFA) []byte {
	t.Helper()
	b := encoded(t, d)
	if want := slowImage(d); !bytes.Equal(b, want) {
		t.Fatalf("Encode(%s) = %x, want %x", tell(d), b, want)
	}
	if len(b) != 274+len(d.Next)*(8+2*len(d.Next[0])) {
		t.Fatalf("Encode(%s) has %d bytes", tell(d), len(b))
	}
	if got := decoded(t, b); !sameTable(got, d) {
		t.Fatalf("Decode(Encode(%s)) = %s", tell(d), tell(got))
	}
	return b
}

// wantNoMachine asks that a table isn't told as bytes.
func wantNoMachine(t *testing.T, what string, d api.DFA) {
	t.Helper()
	if b, e := table.Encode(d); e != api.ErrMachine || len(b) != 0 {
		t.Errorf("%s: %d bytes, %v, want ErrMachine", what, len(b), e)
	}
}

// wantNone asks that bytes are no image.
func wantNone(t *testing.T, what string, b []byte) {
	t.Helper()
	if d, e := table.Decode(b); e != api.ErrTable || !sameTable(d, api.DFA{}) {
		t.Errorf("%s: %s, %v, want ErrTable", what, tell(d), e)
	}
}

// wantSlow asks that bytes are read as the chapter's words read them, and tells whether they are an image.
func wantSlow(t *testing.T, b []byte) bool {
	t.Helper()
	d, e := table.Decode(b)
	want, is := slowDecode(b)
	if !sameTable(d, want) || is != (e == api.OK) || !is && e != api.ErrTable {
		t.Fatalf("Decode(%x) = %s, %v, want %s, %v", b, tell(d), e, tell(want), is)
	}
	if is && !bytes.Equal(encoded(t, d), b) {
		t.Fatalf("the image of what was read of %x is another one", b)
	}
	return is
}

// with is bytes of which one is another one.
func with(b []byte, at int, x byte) []byte {
	changed := bytes.Clone(b)
	changed[at] = x
	return changed
}

// P12.1, P12.2: the chapter's examples.
func TestExamples(t *testing.T) {
	b := encoded(t, one())
	want := "HERONDF1" + "\x01\x00\x00\x00" + "\x01\x00" + strings.Repeat("\x00", 256) + "\x00\x00" + "\x01\x00\x00\x00" + "\x01\x00\x00\x00"
	if len(b) != 284 || string(b[:280]) != want {
		t.Errorf("Encode = %x", b)
	}
	if sum := crc.Of([]byte(want)); !bytes.Equal(b[280:], []byte{byte(sum), byte(sum >> 8), byte(sum >> 16), byte(sum >> 24)}) || !bytes.Equal(b[280:], []byte{0x43, 0x64, 0x44, 0x13}) {
		t.Errorf("the sum is %x", b[280:])
	}
	if d := decoded(t, b); !sameTable(d, one()) {
		t.Errorf("Decode = %s", tell(d))
	}
	wantNone(t, "no bytes", nil)
	wantNone(t, "no bytes", []byte{})
	wantNone(t, "without its last byte", b[:283])
	wantNone(t, "with a byte 0 behind", append(bytes.Clone(b), 0))
	wantNone(t, "with the byte 8 made 2", with(b, 8, 2))
	wantNone(t, "273 zeros", make([]byte, 273))
	wantNone(t, "with the byte 14 made 1 and the sum made right", resummed(with(b, 14, 1)))
}

// P12.1: the image of small tables, byte by byte, every number with its lowest byte first.
func TestImageBytes(t *testing.T) {
	d := two()
	d.Found, d.Ends = []uint32{0, 0x04030201}, []uint32{0x0D0C0B0A, 0xF4F3F2F1}
	b := encoded(t, d)
	if want := "HERONDF1" + "\x02\x00\x00\x00" + "\x02\x00" + strings.Repeat("\x00", 'a') + "\x01" + strings.Repeat("\x00", 255-'a') +
		"\x00\x00" + "\x01\x00" + "\x00\x00\x00\x00" + "\x0A\x0B\x0C\x0D" +
		"\x01\x00" + "\x01\x00" + "\x01\x02\x03\x04" + "\xF1\xF2\xF3\xF4"; len(b) != 298 || string(b[:294]) != want {
		t.Errorf("Encode(%s) = %x", tell(d), b)
	}
	classes := api.DFA{Next: [][]int{make([]int, 256)}, Found: []uint32{0}, Ends: []uint32{7}}
	all := ""
	for k := range 256 {
		classes.Class[k] = 255 - k
		all += string([]byte{byte(255 - k)})
	}
	if b, want := encoded(t, classes), "HERONDF1"+"\x01\x00\x00\x00"+"\x00\x01"+all+strings.Repeat("\x00\x00", 256)+"\x00\x00\x00\x00"+"\x07\x00\x00\x00"; string(b[:len(b)-4]) != want {
		t.Errorf("256 classes: %x, want %x", b[:len(b)-4], want)
	}
	many := wide(0x0304, 1)
	many.Next[0][0], many.Next[1][0], many.Next[0x0303][0] = 0x0102, 0x0303, 0x0201
	b = wantImage(t, many)
	if string(b[8:14]) != "\x04\x03\x00\x00\x01\x00" || string(b[270:272]) != "\x02\x01" || string(b[280:282]) != "\x03\x03" || string(b[270+0x0303*10:][:2]) != "\x01\x02" {
		t.Errorf("772 states: %x .. %x .. %x", b[8:14], b[270:290], b[270+0x0303*10:])
	}
	wantImage(t, one())
	wantImage(t, two())
	c := chance(121)
	for range 1000 {
		wantImage(t, c.small())
	}
}

// P12.1: the sum is that of chapter 1, over all that stands ahead of it.
func TestSum(t *testing.T) {
	c := chance(122)
	for range 200 {
		b := encoded(t, c.small())
		sum, at := crc.Of(b[:len(b)-4]), b[len(b)-4:]
		if !bytes.Equal(at, []byte{byte(sum), byte(sum >> 8), byte(sum >> 16), byte(sum >> 24)}) {
			t.Fatalf("the sum is %x, want %08x with the lowest byte first", at, sum)
		}
	}
	b := encoded(t, two())
	sum := b[len(b)-4:]
	wantNone(t, "without its sum", b[:len(b)-4])
	wantNone(t, "with the sum's highest byte first", append(bytes.Clone(b[:len(b)-4]), sum[3], sum[2], sum[1], sum[0]))
	wantNone(t, "with the sum's bits turned over", append(bytes.Clone(b[:len(b)-4]), ^sum[0], ^sum[1], ^sum[2], ^sum[3]))
	wantNone(t, "with the sum of all but the first word", append(bytes.Clone(b[:len(b)-4]), summed(b[8 : len(b)-4])[len(b)-12:]...))
	wantNone(t, "with a sum of zeros", append(bytes.Clone(b[:len(b)-4]), 0, 0, 0, 0))
}

// P12.1, P12.2: few and many states and classes, as many as there may be, and both at once.
func TestSizes(t *testing.T) {
	for _, c := range []struct{ states, classes, bytes int }{
		{1, 1, 284}, {1, 2, 286}, {2, 1, 294}, {1, 255, 792}, {1, 256, 794}, {256, 1, 2834}, {257, 3, 3872},
		{255, 256, 132874}, {4095, 1, 41224}, {4096, 1, 41234}, {4096, 255, 274 + 4096*518}, {4096, 256, 274 + 4096*520},
	} {
		d := wide(c.states, c.classes)
		if b := wantImage(t, d); len(b) != c.bytes {
			t.Errorf("%d states, %d classes: %d bytes, want %d", c.states, c.classes, len(b), c.bytes)
		}
	}
}

// P12.1, P12.2: words with all bits on, with each single one, and with all but one.
func TestWords(t *testing.T) {
	all := ^uint32(0)
	words := []uint32{0, all}
	for bit := range 32 {
		words = append(words, 1<<bit, all^1<<bit)
	}
	for _, word := range words {
		for _, ends := range []uint32{word, all} {
			d := one()
			d.Found[0], d.Ends[0] = word, ends
			wantImage(t, d)
			d = two()
			d.Found, d.Ends = []uint32{0, word}, []uint32{^word, ends}
			wantImage(t, d)
		}
	}
	d := wide(4096, 2)
	for s := range d.Found {
		d.Found[s], d.Ends[s] = all, all
	}
	wantImage(t, d)
}

// changed is a table after something was done to it.
func changed(d api.DFA, do func(d *api.DFA)) api.DFA {
	d = copied(d)
	do(&d)
	return d
}

// P12.1: tables that don't fit, each way.
func TestWrongTables(t *testing.T) {
	wantNoMachine(t, "the zero table", api.DFA{})
	wantNoMachine(t, "lists that are empty", api.DFA{Next: [][]int{}, Found: []uint32{}, Ends: []uint32{}})
	wantNoMachine(t, "no state", api.DFA{Found: []uint32{1}, Ends: []uint32{1}})
	wantNoMachine(t, "two numbers in Next 0, one in Next 1", api.DFA{Next: [][]int{{0, 0}, {0}}, Found: make([]uint32, 2), Ends: make([]uint32, 2)})
	wantNoMachine(t, "one number in Next 0, two in Next 1", api.DFA{Next: [][]int{{0}, {0, 0}}, Found: make([]uint32, 2), Ends: make([]uint32, 2)})
	wantNoMachine(t, "4097 states", wide(4097, 1))
	wantNoMachine(t, "65537 states", wide(65537, 1))
	wantNoMachine(t, "257 classes", wide(1, 257))
	wantNoMachine(t, "257 classes, of which bytes have 256", changed(wide(1, 257), func(d *api.DFA) { d.Class = wide(1, 256).Class }))
	wantNoMachine(t, "65537 classes", wide(1, 65537))
	for what, do := range map[string]func(d *api.DFA){
		"no class":                        func(d *api.DFA) { d.Next[0], d.Next[1] = nil, nil },
		"no class of state 0":             func(d *api.DFA) { d.Next[0] = nil },
		"no class of state 1":             func(d *api.DFA) { d.Next[1] = []int{} },
		"a number more in Next 1":         func(d *api.DFA) { d.Next[1] = append(d.Next[1], 0) },
		"no Found":                        func(d *api.DFA) { d.Found = nil },
		"a word fewer in Found":           func(d *api.DFA) { d.Found = d.Found[:1] },
		"a word more in Found":            func(d *api.DFA) { d.Found = append(d.Found, 0) },
		"no Ends":                         func(d *api.DFA) { d.Ends = nil },
		"a word fewer in Ends":            func(d *api.DFA) { d.Ends = d.Ends[:1] },
		"a word more in Ends":             func(d *api.DFA) { d.Ends = append(d.Ends, 0) },
		"a word more in both":             func(d *api.DFA) { d.Found, d.Ends = append(d.Found, 0), append(d.Ends, 0) },
		"a bit of Found that isn't Ends'": func(d *api.DFA) { d.Ends[1] = 5 },
		"a bit of Found that goes":        func(d *api.DFA) { d.Found[0] = 4 },
	} {
		wantNoMachine(t, what, changed(two(), do))
	}
	for _, wrong := range []int{math.MinInt, -1 << 32, -65536, -256, -2, -1, 2, 3, 255, 256, 257, 4095, 4096, 65535, 65536, 65537, 1 << 32, math.MaxInt} {
		for _, b := range []int{0, 'a', 'b', 255} {
			wantNoMachine(t, fmt.Sprintf("Class[%d] is %d", b, wrong), changed(two(), func(d *api.DFA) { d.Class[b] = wrong }))
		}
		for k := range 4 {
			wantNoMachine(t, fmt.Sprintf("Next[%d][%d] is %d", k/2, k%2, wrong), changed(two(), func(d *api.DFA) { d.Next[k/2][k%2] = wrong }))
		}
	}
	for bit := range 32 {
		word := uint32(1) << bit
		wantNoMachine(t, "a bit of Found that isn't Ends'", api.DFA{Next: [][]int{{0}}, Found: []uint32{word}, Ends: []uint32{^word}})
		wantNoMachine(t, "a bit of Found that goes", api.DFA{Next: [][]int{{0, 1}, {1, 1}}, Found: []uint32{word, ^word}, Ends: []uint32{word, ^word}})
	}
}

// P12.2, P12.3: an image of which bytes are left out at its end, or at its beginning, at every place.
func TestBeginnings(t *testing.T) {
	c := chance(123)
	for _, d := range []api.DFA{one(), two(), c.table(3, 5), c.table(9, 256)} {
		b := encoded(t, d)
		for n := range b {
			wantNone(t, fmt.Sprintf("the first %d of %d bytes", n, len(b)), b[:n])
			wantNone(t, fmt.Sprintf("the first %d of %d bytes, with their sum", n, len(b)-4), summed(b[:min(n, len(b)-5)]))
			if n > 0 {
				wantNone(t, fmt.Sprintf("all but the first %d of %d bytes", n, len(b)), b[n:])
			}
		}
	}
}

// P12.2, P12.3: an image with bytes behind it.
func TestBytesBehind(t *testing.T) {
	c := chance(124)
	for _, d := range []api.DFA{one(), two(), c.table(3, 5)} {
		b := encoded(t, d)
		state := states(d)[:8+2*len(d.Next[0])]
		more := [][]byte{b, b[:8], b[len(b)-4:], state, bytes.Repeat(state, 2), make([]byte, 4096)}
		for x := range 256 {
			more = append(more, []byte{byte(x)})
		}
		for n := range 40 {
			more = append(more, make([]byte, n+1), []byte(c.line(40)+"x"))
		}
		for _, x := range more {
			wantNone(t, fmt.Sprintf("with %d bytes behind", len(x)), append(bytes.Clone(b), x...))
			wantNone(t, fmt.Sprintf("with %d bytes ahead", len(x)), append(bytes.Clone(x), b...))
			wantNone(t, fmt.Sprintf("with %d bytes behind the states", len(x)), summed(append(bytes.Clone(b[:len(b)-4]), x...)))
			wantNone(t, fmt.Sprintf("with %d bytes behind, and the sum of all", len(x)), summed(append(bytes.Clone(b), x...)))
		}
	}
}

// P12.3: an image with a single byte changed, each into each other one.
func TestOneByteChanged(t *testing.T) {
	c := chance(125)
	for _, d := range []api.DFA{one(), two(), c.table(3, 3)} {
		b := encoded(t, d)
		for i, was := range b {
			for x := range 256 {
				if byte(x) != was {
					wantNone(t, fmt.Sprintf("byte %d made %d", i, x), with(b, i, byte(x)))
				}
			}
		}
	}
}

// turned is bytes of which, from a bit on, those bits are turned over that are on in a word.
func turned(b []byte, from int, word uint32) []byte {
	changed := bytes.Clone(b)
	for k := range 32 {
		if bit := from + k; word>>k&1 == 1 && bit < 8*len(b) {
			changed[bit/8] ^= 1 << (bit % 8)
		}
	}
	return changed
}

// P12.3: an image changed within 32 bits that stand behind one another, wherever they stand, also across the beginning of the sum and within it.
func TestBitsChanged(t *testing.T) {
	c := chance(126)
	for _, d := range []api.DFA{one(), two(), c.table(4, 3)} {
		b := encoded(t, d)
		for from := range 8 * len(b) {
			words := []uint32{1, 3, 1 << 31, 1<<31 | 1, math.MaxUint32, 0xEDB88320, 0x04C11DB7, 0xDB710641, 0x82608EDB}
			for range 12 {
				words = append(words, c.Uint32(), c.Uint32()&c.Uint32()&c.Uint32())
			}
			for _, word := range words {
				if bad := turned(b, from, word); !bytes.Equal(bad, b) {
					wantNone(t, fmt.Sprintf("bits from %d on turned over by %x", from, word), bad)
				}
			}
		}
	}
	b := encoded(t, wide(4096, 256))
	for range 30 {
		from, word := c.Intn(8*len(b)-31), c.Uint32()|1
		wantNone(t, fmt.Sprintf("the greatest image, bits from %d on turned over by %x", from, word), turned(b, from, word))
	}
}

// P12.2: another first word, the sum being right.
func TestFirstWord(t *testing.T) {
	b := encoded(t, one())
	for i := range 8 {
		for x := range 256 {
			if byte(x) != b[i] {
				wantNone(t, fmt.Sprintf("byte %d made %d", i, x), resummed(with(b, i, byte(x))))
			}
		}
	}
	for _, word := range []string{"herondf1", "HERONDF2", "HERONDF0", "HERONCK1", "1FDNOREH", "HERON\x00\x00\x00", "        ", "\x00\x00\x00\x00\x00\x00\x00\x00"} {
		wantNone(t, word, resummed(append([]byte(word), b[8:]...)))
	}
	for _, word := range []string{"", "H", "HERONDF", "HERONDF1\n", " HERONDF1", "\xef\xbb\xbfHERONDF1"} {
		wantNone(t, word, resummed(append([]byte(word), b[8:]...)))
	}
}

// P12.2: numbers of states and of classes that are 0, too great, or don't suit the length, the sum being right.
func TestSizesThatMayNotBe(t *testing.T) {
	none := [256]int{}
	wantNone(t, "no state", summed(front(0, 1, none)))
	wantNone(t, "no state, no class", summed(front(0, 0, none)))
	for _, d := range []api.DFA{one(), two(), wide(7, 5)} {
		wantNone(t, "no state, the bytes of some", summed(append(front(0, len(d.Next[0]), none), states(d)...)))
		wantNone(t, "no class, the bytes of some", summed(append(front(len(d.Next), 0, none), states(d)...)))
	}
	for states := 1; states < 6; states++ {
		wantNone(t, "no class", summed(append(front(states, 0, none), make([]byte, 8*states)...)))
		wantNone(t, "257 classes", summed(append(front(states, 257, none), make([]byte, (8+514)*states)...)))
		wantNone(t, "65535 classes", summed(append(front(states, 65535, none), make([]byte, (8+2*65535)*states)...)))
	}
	for classes := range 4 {
		wantNone(t, "4097 states", summed(append(front(4097, classes, none), make([]byte, (8+2*classes)*4097)...)))
		wantNone(t, "65537 states", summed(append(front(65537, classes, none), make([]byte, (8+2*classes)*65537)...)))
	}
	wantNone(t, "4097 states, 256 classes", summed(append(front(4097, 256, none), make([]byte, 520*4097)...)))
	wantNone(t, "4096 states, 257 classes", summed(append(front(4096, 257, none), make([]byte, 522*4096)...)))
	for _, d := range []api.DFA{one(), two(), wide(7, 5)} {
		S, C, own := len(d.Next), len(d.Next[0]), states(d)
		for _, s := range []int{S - 1, S + 1, 2 * S, 4096, 4097, S + 256, S + 1<<16, S + 1<<24, S << 8, S << 16, S << 24, 1 << 31, math.MaxUint32} {
			wantNone(t, fmt.Sprintf("%d states told of %d", s, S), summed(append(front(s, C, d.Class), own...)))
		}
		for _, c := range []int{C - 1, C + 1, 2 * C, 256, 257, C + 256, C << 8, 1 << 15, math.MaxUint16} {
			wantNone(t, fmt.Sprintf("%d classes told of %d", c, C), summed(append(front(S, c, d.Class), own...)))
		}
		wantNone(t, "as many of both as can be told", summed(append(front(math.MaxUint32, math.MaxUint16, d.Class), own...)))
	}
}

// P12.2, P12.3: the states of a table told with each other number of states and classes: an image just where they suit and fit.
func TestOtherSizesOfTheSameBytes(t *testing.T) {
	is := 0
	for _, S := range []int{1, 2, 3, 4, 6} {
		for C := 1; C < 10; C++ {
			own := states(api.DFA{Next: wide(S, C).Next, Found: make([]uint32, S), Ends: make([]uint32, S)})
			for s := range 9 {
				for c := range 30 {
					if wantSlow(t, summed(append(front(s, c, [256]int{}), own...))) {
						is++
					}
					if wantSlow(t, summed(append(front(s, c, [256]int{}), make([]byte, len(own))...))) {
						is++
					}
				}
			}
		}
	}
	if is < 150 {
		t.Errorf("%d images: the test tells too little", is)
	}
}

// P12.2, P12.3: the sum is right, and the table doesn't fit: a class, a number of Next, a word of Found or of Ends.
func TestSumOverWrongTables(t *testing.T) {
	wrong := func(what string, d api.DFA, do func(d *api.DFA)) {
		t.Helper()
		wantNone(t, what, slowImage(changed(d, do)))
	}
	for b := range 256 {
		for _, c := range []int{2, 3, 127, 128, 254, 255} {
			wrong(fmt.Sprintf("the class of byte %d is %d", b, c), two(), func(d *api.DFA) { d.Class[b] = c })
		}
		wrong(fmt.Sprintf("the class of byte %d is 255 of 255", b), wide(1, 255), func(d *api.DFA) { d.Class[b] = 255 })
	}
	for k := range 4 {
		for _, to := range []int{2, 3, 255, 256, 257, 4095, 4096, 0x7FFF, 0x8000, 0xFF00, 0xFFFE, 0xFFFF} {
			wrong(fmt.Sprintf("Next[%d][%d] is %d", k/2, k%2, to), two(), func(d *api.DFA) { d.Next[k/2][k%2] = to })
		}
	}
	wrong("Next[4095][0] is 4096 of 4096", wide(4096, 1), func(d *api.DFA) { d.Next[4095][0] = 4096 })
	wrong("Next[256][2] is 513 of 257", wide(257, 3), func(d *api.DFA) { d.Next[256][2] = 513 })
	for bit := range 32 {
		word := uint32(1) << bit
		wrong("a bit of Found that isn't Ends'", one(), func(d *api.DFA) { d.Found[0], d.Ends[0] = word, ^word })
		wrong("a bit of the second state's", two(), func(d *api.DFA) { d.Found[1], d.Ends[1] = word, ^word })
		wrong("a bit of Found that goes", two(), func(d *api.DFA) { d.Found[0], d.Ends[0], d.Found[1] = word, word, 0 })
	}
}

// P12.2: images with one or two numbers of their tables changed and the sum made right are read as the chapter's words read them: many are the images of other tables.
func TestChangedByChance(t *testing.T) {
	c := chance(127)
	is := 0
	const tries = 60_000
	for range tries {
		b := slowImage(c.small())
		for range 1 + c.Intn(2) {
			at := 270 + c.Intn(len(b)-274)
			if c.Intn(4) == 0 {
				at = c.Intn(270)
			}
			b[at] = byte(c.Intn(256))
			if c.Intn(2) == 0 {
				b[at] = byte(c.Intn(5))
			}
		}
		if wantSlow(t, resummed(b)) {
			is++
		}
	}
	if is < tries/20 || is > tries*19/20 {
		t.Errorf("%d of %d are images: the test tells too little", is, tries)
	}
}

// P12.3: Decode(Encode(d)) is d, for tables by chance, small ones and great ones, and for those of patterns and their least tables.
func TestThereAndBack(t *testing.T) {
	c := chance(128)
	for range 300 {
		wantImage(t, c.table(1+c.Intn(60), 1+c.Intn(256)))
	}
	for range 3 {
		wantImage(t, c.table(1+c.Intn(4096), 1+c.Intn(9)))
	}
	for _, patterns := range rules() {
		d := united(t, patterns...)
		wantImage(t, d)
		l, _ := least.Make(d)
		wantImage(t, l)
	}
}

// rules is lists of patterns that are put into one table each.
func rules() [][]string {
	many := []string{} // as many as there may be
	for k := range api.MaxRules {
		many = append(many, "ABCDEFGHIJKLMNOPQRSTUVWXYZabcdef"[k:k+1]+"$")
	}
	return [][]string{{""}, {"$"}, {"a"}, {"^a"}, {"a$"}, {"^$"}, {"err|warn", "^$", "[0-9]{3}"}, {"(a|b)*a(a|b){4}$", "x.y"}, {"[^a-m]+z?", ".\\.", "(^|a)b", "a^b"}, many}
}

// P12.3: two tables that fit and are unlike, in one number alone, have unlike images.
func TestOneNumberOther(t *testing.T) {
	c := chance(129)
	apart := func(d, o api.DFA) {
		t.Helper()
		if bytes.Equal(encoded(t, d), encoded(t, o)) {
			t.Fatalf("one image of %s and of %s", tell(d), tell(o))
		}
	}
	for range 300 {
		d := c.table(2+c.Intn(7), 2+c.Intn(5))
		S, C := len(d.Next), len(d.Next[0])
		for range 20 {
			b, s, k := c.Intn(256), c.Intn(S), c.Intn(C)
			apart(d, changed(d, func(o *api.DFA) { o.Class[b] = (o.Class[b] + 1 + c.Intn(C-1)) % C }))
			quiet := changed(d, func(o *api.DFA) { clear(o.Found) })
			apart(quiet, changed(quiet, func(o *api.DFA) { o.Next[s][k] = (o.Next[s][k] + 1 + c.Intn(S-1)) % S }))
			apart(quiet, changed(quiet, func(o *api.DFA) { o.Ends[s] ^= 1 << c.Intn(32) }))
		}
		bit := uint32(1) << c.Intn(32) // every state has met it, or none has by Found
		loud := changed(d, func(o *api.DFA) {
			for s := range o.Found {
				o.Found[s] |= bit
				o.Ends[s] |= bit
			}
		})
		apart(loud, changed(loud, func(o *api.DFA) {
			for s := range o.Found {
				o.Found[s] &^= bit
			}
		}))
	}
}

// P12.3: no two of many small tables have one image, also where they are as long: 1 state of 8 classes and 2 of 2, for one.
func TestUnlikeImages(t *testing.T) {
	c := chance(130)
	met := map[string]api.DFA{}
	add := func(d api.DFA) {
		t.Helper()
		b := string(encoded(t, d))
		if o, there := met[b]; there && !sameTable(o, d) {
			t.Fatalf("one image of %s and of %s", tell(d), tell(o))
		}
		met[b] = copied(d)
	}
	for S := 1; S < 7; S++ {
		for C := 1; C < 20; C++ {
			d := wide(S, C)
			d.Class = [256]int{}
			clear(d.Ends)
			add(d)
			for _, next := range d.Next {
				clear(next)
			}
			add(d)
		}
	}
	for range 20_000 {
		d := c.table(1+c.Intn(3), 1+c.Intn(2))
		d.Class = [256]int{}
		d.Class[c.Intn(256)] = c.Intn(len(d.Next[0]))
		for s := range d.Ends {
			d.Ends[s] = d.Found[s] | uint32(c.Intn(3))
		}
		add(d)
	}
	if len(met) < 1000 {
		t.Errorf("%d images: the test tells too little", len(met))
	}
}

// P12.3: what Decode answers meets the same rules on every line.
func TestMeetsTheSame(t *testing.T) {
	c := chance(131)
	meets := func(d, o api.DFA, line string) {
		t.Helper()
		want, e := subset.Run(d, line)
		got, f := subset.Run(o, line)
		if e != api.OK || f != api.OK || got != want || got != slowRun(d, line) {
			t.Fatalf("%q meets %x, %v, want %x, %v", line, got, f, want, e)
		}
	}
	for range 200 {
		d := c.table(1+c.Intn(40), 1+c.Intn(20))
		o := decoded(t, encoded(t, d))
		meets(d, o, "")
		for range 20 {
			meets(d, o, c.line(30))
		}
	}
	for _, patterns := range rules() {
		d := united(t, patterns...)
		o := decoded(t, encoded(t, d))
		if same, line, e := least.Same(d, o); !same || e != api.OK {
			t.Errorf("%q: unlike on %q, %v", patterns, line, e)
		}
		for _, line := range []string{"", "a", "b", "ab", "an error 404", "warn", "abbab", "x\ny", "xzy", "A1 Z9", "\x00\xff", "\n"} {
			meets(d, o, line)
		}
		for range 50 {
			meets(d, o, c.line(20))
		}
	}
}

// roomy is a table whose lists have room behind them, in which other numbers stand; and all of that room.
func roomy(d api.DFA) (api.DFA, api.DFA) {
	whole := copied(d)
	for s := range whole.Next {
		whole.Next[s] = append(whole.Next[s], 77, 78)
	}
	whole.Next = append(whole.Next, []int{79}, []int{80})
	whole.Found = append(whole.Found, 81, 82)
	whole.Ends = append(whole.Ends, 83, 84)
	next := slices.Clone(whole.Next)
	for s := range d.Next {
		next[s] = next[s][:len(d.Next[s])]
	}
	return api.DFA{Class: d.Class, Next: next[:len(d.Next)], Found: whole.Found[:len(d.Found)], Ends: whole.Ends[:len(d.Ends)]}, whole
}

// P12.4: what is handed in is not changed, nor the room behind it.
func TestHandedInStays(t *testing.T) {
	c := chance(132)
	for k := range 400 {
		d, room := roomy(c.small())
		if k%4 == 0 {
			d.Next[0][0] = -1 // refused
		}
		was := copied(room)
		b, _ := table.Encode(d)
		if !sameTable(room, was) {
			t.Fatalf("Encode: %s, was %s", tell(room), tell(was))
		}
		if behind := d.Next[:len(d.Next)+2]; behind[len(d.Next)][0] != 79 || behind[len(d.Next)+1][0] != 80 {
			t.Fatalf("Encode changes the room behind Next")
		}
		if k%4 == 1 {
			b[c.Intn(len(b))] ^= 1 // refused
		}
		more := append(bytes.Clone(b), c.line(300)...)
		kept := bytes.Clone(more)
		table.Decode(more[:len(b)])
		if !bytes.Equal(more, kept) {
			t.Fatalf("Decode: %x, was %x", more, kept)
		}
	}
}

// spoil writes into a table's lists, and into the room behind them.
func spoil(d api.DFA) {
	for _, list := range d.Next[:cap(d.Next)] {
		list = list[:cap(list)]
		for i := range list {
			list[i] = -9
		}
	}
	for _, list := range [][]uint32{d.Found[:cap(d.Found)], d.Ends[:cap(d.Ends)]} {
		for i := range list {
			list[i] = 99
		}
	}
	clear(d.Next[:cap(d.Next)])
}

// spoilBytes writes into bytes, and into the room behind them.
func spoilBytes(b []byte) {
	b = b[:cap(b)]
	for i := range b {
		b[i] = 0xA5
	}
}

// P12.4: what is handed in is not kept: what is written into it behind the call changes neither that answer nor a later one.
func TestNothingIsKept(t *testing.T) {
	c := chance(133)
	for range 400 {
		d := c.small()
		whole, want := copied(d), slowImage(d)
		b := encoded(t, d)
		spoil(d)
		if !bytes.Equal(b, want) || !bytes.Equal(encoded(t, whole), want) {
			t.Fatalf("written into what Encode was given: %s", tell(whole))
		}
		handed := bytes.Clone(want)
		got := decoded(t, handed)
		spoilBytes(handed)
		if !sameTable(got, whole) || !sameTable(decoded(t, want), whole) {
			t.Fatalf("written into what Decode was given: %s, was %s", tell(got), tell(whole))
		}
	}
}

// P12.4: what Encode answers is new memory, the room behind it too: writing into it changes neither the table nor another answer, given by then or later.
func TestNewImage(t *testing.T) {
	c := chance(134)
	for range 400 {
		d := c.small()
		was, want := copied(d), slowImage(d)
		first, second := encoded(t, d), encoded(t, d)
		spoilBytes(first)
		if !sameTable(d, was) || !bytes.Equal(second, want) || !bytes.Equal(encoded(t, d), want) {
			t.Fatalf("written into the image of %s", tell(was))
		}
		spoilBytes(second)
		if slices.ContainsFunc(first, func(x byte) bool { return x != 0xA5 }) || !bytes.Equal(encoded(t, d), want) {
			t.Fatalf("written into two images of %s", tell(was))
		}
	}
}

// wantApart asks that no two lists of some tables share memory, the room behind them neither: each is filled with a number of its own, and all must have their own at the end.
func wantApart(t *testing.T, tables ...api.DFA) {
	t.Helper()
	var numbers [][]int
	var words [][]uint32
	for _, d := range tables {
		for _, next := range d.Next {
			numbers = append(numbers, next[:cap(next)])
		}
		words = append(words, d.Found[:cap(d.Found)], d.Ends[:cap(d.Ends)])
	}
	for k, list := range numbers {
		for i := range list {
			list[i] = -1 - k
		}
	}
	for k, list := range words {
		for i := range list {
			list[i] = uint32(1000 + k)
		}
	}
	for k, list := range numbers {
		if slices.ContainsFunc(list, func(n int) bool { return n != -1-k }) {
			t.Fatalf("lists of Next share memory")
		}
	}
	for k, list := range words {
		if slices.ContainsFunc(list, func(word uint32) bool { return word != uint32(1000+k) }) {
			t.Fatalf("lists of Found and Ends share memory")
		}
	}
	for k, d := range tables {
		clear(d.Next[:cap(d.Next)])
		for _, o := range tables[k+1:] {
			if slices.ContainsFunc(o.Next, func(next []int) bool { return next == nil }) {
				t.Fatalf("two answers have one Next")
			}
		}
	}
}

// P12.4: what Decode answers is new memory, each list of Next too: no two lists share any, of one answer or of two; and writing into them changes neither the bytes nor a later answer.
func TestNewTable(t *testing.T) {
	c := chance(135)
	for range 400 {
		b := slowImage(c.small())
		want, _ := slowDecode(b)
		was := bytes.Clone(b)
		first, second := decoded(t, b), decoded(t, b)
		spoil(first)
		if !bytes.Equal(b, was) || !sameTable(second, want) || !sameTable(decoded(t, b), want) {
			t.Fatalf("written into the table %s", tell(want))
		}
		wantApart(t, decoded(t, b), second, decoded(t, b))
		if !bytes.Equal(b, was) || !sameTable(decoded(t, b), want) {
			t.Fatalf("written into three tables %s", tell(want))
		}
	}
}

// The rules that hold everywhere (W1, W2): no call panics, whatever it is given, and beside an error nothing is answered.
func TestNoPanic(t *testing.T) {
	c := chance(136)
	numbers := []int{math.MinInt, -1, 0, 0, 0, 0, 0, 0, 0, 0, 0, 0, 0, 1, 1, 1, 1, 1, 2, 2, 4096, math.MaxInt}
	fit := 0
	for range 30_000 {
		var d api.DFA
		n := c.Intn(4)
		for range n {
			var next []int
			for range 1 + c.Intn(2)*c.Intn(2)*c.Intn(2) {
				next = append(next, numbers[c.Intn(len(numbers))])
			}
			d.Next = append(d.Next, next)
		}
		for range n + c.Intn(2)*c.Intn(2) {
			d.Found = append(d.Found, c.Uint32()&c.Uint32()&-uint32(c.Intn(9)/8))
		}
		for range n + c.Intn(2)*c.Intn(2) {
			d.Ends = append(d.Ends, c.Uint32()|c.Uint32()|c.Uint32())
		}
		if c.Intn(3) == 0 {
			d.Class[c.Intn(256)] = numbers[c.Intn(len(numbers))]
		}
		if slowRight(d) {
			wantImage(t, d)
			fit++
		} else {
			wantNoMachine(t, tell(d), d)
		}
	}
	if fit < 1000 {
		t.Errorf("%d tables fit: the test tells too little", fit)
	}
}

// W1: bytes by chance, of all lengths, with and without a front and a sum that are right.
func TestAnyBytes(t *testing.T) {
	c := chance(137)
	is := 0
	for range 30_000 {
		b := []byte(c.line(60))
		if c.Intn(3) > 0 {
			var class [256]int
			class[c.Intn(256)] = c.Intn(3)
			b = append(front(c.Intn(4), c.Intn(4), class), b...)
		}
		if c.Intn(3) > 0 {
			b = append(b[:min(len(b), 270)], make([]byte, 2*c.Intn(25))...)
		}
		if wantSlow(t, b) {
			t.Errorf("an image without a sum: %x", b)
		}
		if wantSlow(t, summed(b)) {
			is++
		}
	}
	if is < 100 {
		t.Errorf("%d images: the test tells too little", is)
	}
}

// soon asks that something is done within a time that is far more than it takes.
func soon(t *testing.T, what string, do func()) {
	t.Helper()
	start := time.Now()
	do()
	if took := time.Since(start); took > 20*time.Second {
		t.Errorf("%s took %v", what, took)
	}
}

// W1: every call ends: on the greatest tables and images, and on many bytes that tell of more than stands there.
func TestEnds(t *testing.T) {
	soon(t, "the greatest table", func() {
		d := wide(4096, 256)
		for range 3 {
			wantImage(t, d)
		}
	})
	soon(t, "many bytes", func() {
		many := make([]byte, 1<<25)
		wantNone(t, "zeros", many)
		copy(many, front(math.MaxUint32, 0, [256]int{}))
		wantNone(t, "no class", summed(many))
		copy(many, front(math.MaxUint32, math.MaxUint16, [256]int{}))
		wantNone(t, "all bits of both on", summed(many))
		copy(many, front(4096, 256, [256]int{}))
		wantNone(t, "the greatest sizes", summed(many))
	})
	soon(t, "few bytes that tell of many", func() {
		for range 2000 {
			wantNone(t, "nothing behind the classes", summed(front(4096, 256, [256]int{})))
			wantNone(t, "nothing behind the classes", summed(front(math.MaxUint32, math.MaxUint16, [256]int{})))
		}
	})
}

// W5: the same answers whoever asks, several at once, and again and again.
func TestManyAtOnce(t *testing.T) {
	d := united(t, "(^a|(ab?|b){1,4}c*)*(a|b$)?c", "(a|b){3}$", "^b|x", "[0-9]+\\.[0-9]+")
	want := wantImage(t, d)
	bad := with(want, len(want)/2, want[len(want)/2]+1)
	var wait sync.WaitGroup
	for range 8 {
		wait.Go(func() {
			for range 50 {
				b, e := table.Encode(d)
				o, f := table.Decode(want)
				if !bytes.Equal(b, want) || e != api.OK || !sameTable(o, d) || f != api.OK {
					t.Error("the answer hangs on who asks")
					return
				}
				if _, e := table.Decode(bad); e != api.ErrTable {
					t.Errorf("Decode = %v", e)
					return
				}
			}
		})
	}
	wait.Wait()
}
