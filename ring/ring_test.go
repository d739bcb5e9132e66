package ring_test

import (
	"math"
	"slices"
	"strconv"
	"testing"

	"heron/api"
	"heron/ring"
)

// tester is a ring that is asked at each call how it stands.
type tester[T comparable] struct {
	*testing.T
	r      *ring.Ring[T]
	places int
}

// fresh is a new ring, which has met nothing.
func fresh[T comparable](t *testing.T, places int) tester[T] {
	t.Helper()
	r, e := ring.New[T](places)
	if r == nil || e != api.OK {
		t.Fatalf("New(%d): %v, %v", places, r, e)
	}
	x := tester[T]{t, r, places}
	x.stands()
	return x
}

// stands asks for all that may be asked, twice: asking changes nothing, and the answers may be written over.
func (x tester[T]) stands(want ...T) {
	x.Helper()
	var first T
	if len(want) > 0 {
		first = want[0]
	}
	for range 2 {
		if n, full := x.r.Len(), x.r.Full(); n != len(want) || full != (len(want) == x.places) {
			x.Fatalf("Len, Full = %d, %v, want %d of %d", n, full, len(want), x.places)
		}
		if f, is := x.r.Front(); f != first || is != (len(want) > 0) {
			x.Fatalf("Front = %v, %v, want %v, %v", f, is, first, len(want) > 0)
		}
		all := x.r.All()
		if !slices.Equal(all, want) {
			x.Fatalf("All = %v, want %v", all, want)
		}
		clear(all[:cap(all)])
	}
}

// push pushes things that are taken.
func (x tester[T]) push(things ...T) {
	x.Helper()
	for _, thing := range things {
		if e := x.r.Push(thing); e != api.OK {
			x.Fatalf("Push(%v): %v", thing, e)
		}
	}
}

// refused pushes a thing that isn't taken.
func (x tester[T]) refused(thing T) {
	x.Helper()
	if e := x.r.Push(thing); e != api.ErrRing {
		x.Fatalf("Push(%v): %v, want %v", thing, e, api.ErrRing)
	}
}

// pop pops things that there are.
func (x tester[T]) pop(want ...T) {
	x.Helper()
	for _, thing := range want {
		if got, is := x.r.Pop(); got != thing || !is {
			x.Fatalf("Pop = %v, %v, want %v, true", got, is, thing)
		}
	}
}

// none pops where there is no thing.
func (x tester[T]) none() {
	x.Helper()
	var zero T
	if got, is := x.r.Pop(); got != zero || is {
		x.Fatalf("Pop = %v, %v, want %v, false", got, is, zero)
	}
}

// P18.1: New at its edges, whatever the type of the things.
func TestNew(t *testing.T) {
	newAt[int](t)
	newAt[string](t)
	newAt[[]byte](t)
	newAt[struct{}](t)
	newAt[[1000]int](t)
	newAt[api.Alert](t)
	newAt[any](t)
	newAt[func()](t)
	newAt[*ring.Ring[int]](t)
}

func newAt[T any](t *testing.T) {
	t.Helper()
	for _, places := range []int{math.MinInt, math.MinInt32, -64, -2, -1, 0, 65, 66, 128, 1 << 32, 1<<32 + 1, math.MaxInt} {
		if r, e := ring.New[T](places); r != nil || e != api.ErrInval {
			t.Errorf("New(%d): %v, %v, want nil, %v", places, r, e, api.ErrInval)
		}
	}
	for _, places := range []int{1, 2, 3, 63, 64} {
		r, e := ring.New[T](places)
		if r == nil || e != api.OK {
			t.Fatalf("New(%d): %v, %v", places, r, e)
		}
		if _, is := r.Front(); is || r.Len() != 0 || r.Full() || len(r.All()) != 0 {
			t.Errorf("New(%d): %v, %d, %v, %d", places, is, r.Len(), r.Full(), len(r.All()))
		}
		var zero T
		for k := range places {
			if e := r.Push(zero); e != api.OK {
				t.Errorf("Push %d of %d: %v", k, places, e)
			}
		}
		if e := r.Push(zero); e != api.ErrRing {
			t.Errorf("one more than %d: %v", places, e)
		}
	}
}

// P18.1 to P18.4: the chapter's examples.
func TestExamples(t *testing.T) {
	x := fresh[int](t, 2)
	x.none()
	x.push(7, 8)
	x.refused(9)
	x.stands(7, 8)
	x.pop(7)
	x.push(9)
	x.stands(8, 9)
	x.pop(8, 9)
	x.none()
	x.stands()

	one := fresh[int](t, 1)
	for k := range 1000 {
		one.push(k)
		one.stands(k)
		one.pop(k)
		one.stands()
	}

	texts := fresh[string](t, 3)
	texts.push("")
	texts.stands("")
	texts.pop("")
	texts.none()
}

// P18.2: a thing is the last one as long as there is a place, and none is taken, nor anything changed, from then on.
func TestPush(t *testing.T) {
	for places := 1; places <= api.MaxQueue; places++ {
		x := fresh[int](t, places)
		var there []int
		for k := range places {
			x.push(k)
			there = append(there, k)
			x.stands(there...)
		}
		for range 3 {
			x.refused(-1)
			x.stands(there...)
		}
		x.pop(0)
		x.stands(there[1:]...)
		x.push(places)
		there = append(there[1:], places)
		x.stands(there...)
		x.refused(-2)
		x.stands(there...)
		x.pop(there...)
		x.none()
		x.stands()
	}
}

// P18.3: a ring without a thing, new or left by all, tells the zero value, and still takes as many as it has places.
func TestNone(t *testing.T) {
	for places := 1; places <= 5; places++ {
		for round := range 3 * places {
			x := fresh[string](t, places)
			for k := range round {
				x.push(strconv.Itoa(k))
				x.pop(strconv.Itoa(k))
			}
			for range 3 {
				x.none()
				x.stands()
			}
			for k := range places {
				x.push("again " + strconv.Itoa(k))
			}
			x.refused("more")
			for k := range places {
				x.pop("again " + strconv.Itoa(k))
			}
			x.none()
			x.stands()
		}
	}
}

// P18.3: Front leaves the first thing, however often it is asked, and whatever is put behind it.
func TestFront(t *testing.T) {
	x := fresh[string](t, 3)
	for _, thing := range []string{"a", "b", "c"} {
		x.push(thing)
		for range 100 {
			if f, is := x.r.Front(); f != "a" || !is {
				t.Fatalf("Front = %q, %v", f, is)
			}
		}
	}
	x.refused("d")
	x.stands("a", "b", "c")
	x.pop("a")
	x.stands("b", "c")
}

// P18.4: what All has answered is neither seen by the ring, nor changed by what the ring does later.
func TestAllIsNew(t *testing.T) {
	x := fresh[int](t, 4)
	x.push(1, 2, 3)
	x.pop(1)
	x.push(4, 5) // goes round
	all, other := x.r.All(), x.r.All()
	x.pop(2, 3)
	x.push(6, 7)
	x.pop(4)
	if want := []int{2, 3, 4, 5}; !slices.Equal(all, want) || !slices.Equal(other, want) {
		t.Fatalf("%v, %v, want %v", all, other, want)
	}
	for k := range all {
		all[k] = -1
	}
	_ = append(all, -2)
	_ = append(all[:1], -3, -4, -5, -6)
	if want := []int{2, 3, 4, 5}; !slices.Equal(other, want) {
		t.Fatalf("%v, want %v", other, want)
	}
	x.stands(5, 6, 7)
}

// P18.4, W3: the spare room of All's answers is nobody else's, at any number of things.
func TestAllsSpareRoom(t *testing.T) {
	for places := 1; places <= api.MaxQueue; places++ {
		x := fresh[int](t, places)
		var there []int
		for k := range places {
			x.push(k + 1)
			there = append(there, k+1)
			all, other := x.r.All(), x.r.All()
			for i := range all[:cap(all)] {
				all[:cap(all)][i] = -1
			}
			if !slices.Equal(other, there) {
				t.Fatalf("%d of %d: %v, want %v", k+1, places, other, there)
			}
			x.stands(there...)
		}
	}
}

// P18.5: a ring's places are used again and again, at any fullness.
func TestRound(t *testing.T) {
	for _, places := range []int{1, 2, 3, 5, 8, 63, 64} {
		for held := range places {
			x := fresh[int](t, places)
			for k := range held {
				x.push(k)
			}
			for k := range 300 {
				x.push(held + k)
				x.pop(k)
				if k%50 == 49 {
					var there []int
					for i := range held {
						there = append(there, k+1+i)
					}
					x.stands(there...)
				}
			}
		}
	}
}

// P18.5: a ring goes on for ever in the places that it has.
func TestNoNewPlaces(t *testing.T) {
	for _, places := range []int{1, 64} {
		x := fresh[int](t, places)
		if n := testing.AllocsPerRun(1000, func() {
			x.r.Push(1)
			x.r.Push(2)
			x.r.Pop()
		}); n != 0 {
			t.Errorf("%d places: a row of calls asks for memory %v times", places, n)
		}
	}
}

// P18.2, P18.3: a thing that is the zero value of its type is a thing.
func TestZeroThings(t *testing.T) {
	zeroThings(t, 0, 5)
	zeroThings(t, "", "a")
	zeroThings(t, false, true)
	zeroThings(t, nil, &tester[int]{})
	zeroThings(t, nil, error(api.ErrRing))
	zeroThings(t, nil, any(5))
	zeroThings(t, struct{}{}, struct{}{})
	zeroThings(t, [3]int{}, [3]int{0, 0, 1})
	zeroThings(t, api.Alert{}, api.Alert{Path: 1, Text: "a"})
	zeroThings(t, 0.0, math.Inf(1))
}

func zeroThings[T comparable](t *testing.T, zero, other T) {
	t.Helper()
	x := fresh[T](t, 3)
	for range 4 {
		x.push(zero, zero)
		x.stands(zero, zero)
		x.push(other)
		x.stands(zero, zero, other)
		x.refused(other)
		x.pop(zero, zero)
		x.push(zero)
		x.stands(other, zero)
		x.pop(other, zero)
		x.none()
		x.stands()
	}
}

// P18.5: two rings have nothing in common, of one type or of two.
func TestTwoRings(t *testing.T) {
	x, y, z := fresh[int](t, 3), fresh[int](t, 3), fresh[string](t, 2)
	x.push(1, 2)
	y.stands()
	y.push(10)
	z.push("a", "b")
	x.pop(1)
	x.push(3, 4)
	x.refused(5)
	y.stands(10)
	z.stands("a", "b")
	y.pop(10)
	y.none()
	z.pop("a")
	x.stands(2, 3, 4)
	late := fresh[int](t, 3)
	late.push(7, 8, 9)
	x.stands(2, 3, 4)
	y.stands()
	z.stands("b")
}
