package ring_test

import (
	"slices"
	"strconv"
	"sync"
	"testing"
	"time"

	"heron/api"
	"heron/ring"
)

// answer is what one call answers, and how the ring stands behind it.
type answer[T comparable] struct {
	e     api.Errno
	x     T
	is    bool
	count int
	full  bool
	front T
	there bool
}

// ask makes one of a row's calls: + is Push, - is Pop, f, l and a ask for Front, for Len and Full, for All.
func ask[T comparable](q queue[T], call byte, x T) (a answer[T]) {
	switch call {
	case '+':
		a.e = q.Push(x)
	case '-':
		a.x, a.is = q.Pop()
	case 'f':
		a.x, a.is = q.Front()
	case 'l':
		a.count, a.full = q.Len(), q.Full()
	case 'a':
		q.All()
	}
	a.count, a.full = q.Len(), q.Full()
	a.front, a.there = q.Front()
	return a
}

// row makes a row of calls of a ring and of the slow one, and asks that all answers are alike; the k-th call's thing is things(k).
func row[T comparable](t *testing.T, places int, calls string, things func(k int) T) {
	t.Helper()
	r, s := queue[T](fresh[T](t, places).r), queue[T](&slowRing[T]{places: places})
	for k := range len(calls) {
		got, want := ask(r, calls[k], things(k)), ask(s, calls[k], things(k))
		if got != want {
			t.Fatalf("%d places, %q, call %d: %v, want %v", places, calls, k, got, want)
		}
		if all, want := r.All(), s.All(); !slices.Equal(all, want) {
			t.Fatalf("%d places, %q, call %d: All = %v, want %v", places, calls, k, all, want)
		}
	}
}

// number is a thing that no other call of a row puts; never the zero value.
func number(k int) int { return k + 1 }

// text is likewise; every third one is the zero value.
func text(k int) string {
	if k%3 == 0 {
		return ""
	}
	return strconv.Itoa(k)
}

// P18.2 to P18.5: every row of twelve Pushes and Pops on the smallest rings, against the chapter's words done slowly.
func TestShortRows(t *testing.T) {
	const calls = 12
	for places := 1; places <= 5; places++ {
		for bits := range 1 << calls {
			var b [calls]byte
			for k := range b {
				b[k] = "+-"[bits>>k&1]
			}
			row(t, places, string(b[:]), number)
		}
	}
}

// P18.2 to P18.5: every row of five calls of any kind, behind a ring that was filled and gone round.
func TestShortRowsOfAll(t *testing.T) {
	const kinds, calls = "+-fla", 5
	for places := 1; places <= 3; places++ {
		for _, ahead := range []string{"", "++", "+-+-+", "++++--"} {
			for n := range len(kinds) * len(kinds) * len(kinds) * len(kinds) * len(kinds) {
				b := []byte(ahead)
				for range calls {
					b = append(b, kinds[n%len(kinds)])
					n /= len(kinds)
				}
				row(t, places, string(b), text)
			}
		}
	}
}

// P18.2 to P18.5: long rows by chance, which fill the ring, empty it, and keep it about half full.
func TestRowsByChance(t *testing.T) {
	for seed := range int64(300) {
		c := chance(seed)
		places := []int{1, 2, 3, 7, 8, 31, 63, 64, 1 + c.Intn(64)}[c.Intn(9)]
		var b []byte
		for range 1 + c.Intn(8) {
			pushes := []int{1, 4, 5, 6, 9}[c.Intn(5)]
			for range c.Intn(2*places + 20) {
				b = append(b, c.call(pushes))
			}
		}
		row(t, places, string(b), number)
		row(t, places, string(b), text)
	}
}

// P18.5: what is popped comes in the order in which it was pushed, each once; as many pushes are taken as there are places, and one more for each that was popped.
func TestFollows(t *testing.T) {
	for seed := range int64(100) {
		c := chance(1000 + seed)
		places := 1 + c.Intn(64)
		r, _ := ring.New[int](places)
		taken, popped := 0, 0
		for range 2000 {
			if c.Intn(9) < 5 {
				e := r.Push(taken)
				if (e == api.OK) != (taken < places+popped) {
					t.Fatalf("seed %d: %d places, %d taken, %d popped: %v", seed, places, taken, popped, e)
				}
				if e == api.OK {
					taken++
				}
				continue
			}
			x, is := r.Pop()
			if is != (popped < taken) || is && x != popped {
				t.Fatalf("seed %d: %d taken, %d popped: %d, %v", seed, taken, popped, x, is)
			}
			if is {
				popped++
			}
		}
	}
}

// P18.5, W5: rings in several goroutines at once, each its own, tell what they tell alone.
func TestRingsAtOnce(t *testing.T) {
	var all sync.WaitGroup
	for i := range 8 {
		all.Go(func() {
			places := 1 + 9*i
			r, _ := ring.New[int](places)
			for k := range 2000 {
				if e := r.Push(k); e != api.OK {
					t.Errorf("ring %d, Push %d: %v", i, k, e)
				}
				if k < places-1 {
					continue
				}
				if x, is := r.Pop(); x != k-places+1 || !is {
					t.Errorf("ring %d: %d, %v, want %d", i, x, is, k-places+1)
				}
			}
		})
	}
	all.Wait()
}

// W5: one ring asked by several goroutines at once, while nobody changes it.
func TestAskedAtOnce(t *testing.T) {
	x := fresh[int](t, 3)
	x.push(1, 2)
	x.pop(1)
	x.push(3, 4)
	var all sync.WaitGroup
	for range 8 {
		all.Go(func() {
			for range 200 {
				f, is := x.r.Front()
				if f != 2 || !is || x.r.Len() != 3 || !x.r.Full() || !slices.Equal(x.r.All(), []int{2, 3, 4}) {
					t.Errorf("%d, %v, %d, %v", f, is, x.r.Len(), x.r.All())
				}
			}
		})
	}
	all.Wait()
}

// W5: one ring handed from goroutine to goroutine goes on as if one had made all the calls.
func TestHandedOnAtOnce(t *testing.T) {
	r, _ := ring.New[int](5)
	turn := make(chan *ring.Ring[int], 1)
	turn <- r
	refused := make(chan api.Errno, 8)
	var all sync.WaitGroup
	for range 8 {
		all.Go(func() {
			q := <-turn
			if e := q.Push(q.Len()); e != api.OK {
				refused <- e
			}
			turn <- q
		})
	}
	all.Wait()
	if got := r.All(); !slices.Equal(got, []int{0, 1, 2, 3, 4}) {
		t.Errorf("%v", got)
	}
	if len(refused) != 3 {
		t.Errorf("%d were refused", len(refused))
	}
}

// P18.5, W1: a ring that goes on for long ends each call soon.
func TestMany(t *testing.T) {
	done := make(chan string)
	go func() { done <- manyThings() }()
	select {
	case fault := <-done:
		if fault != "" {
			t.Fatal(fault)
		}
	case <-time.After(60 * time.Second):
		t.Fatal("it doesn't end soon")
	}
}

// manyThings tells what is wrong with a ring that many things go through.
func manyThings() string {
	r, _ := ring.New[int](api.MaxQueue)
	for k := range api.MaxQueue - 1 {
		r.Push(k)
	}
	for k := range 5_000_000 {
		if e := r.Push(k + api.MaxQueue - 1); e != api.OK {
			return "Push " + strconv.Itoa(k) + ": " + e.Error()
		}
		if x, is := r.Pop(); x != k || !is {
			return "Pop " + strconv.Itoa(k) + ": " + strconv.Itoa(x)
		}
	}
	if r.Len() != api.MaxQueue-1 || r.Full() {
		return "Len " + strconv.Itoa(r.Len())
	}
	return ""
}
