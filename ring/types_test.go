package ring_test

import (
	"runtime"
	"slices"
	"testing"
	"weak"

	"heron/api"
	"heron/ring"
)

// P18.2, P18.4: a struct and an array are kept as they were put, and what was answered may be changed.
func TestValuesAreCopied(t *testing.T) {
	type thing struct {
		n    int
		list [3]string
	}
	x := fresh[thing](t, 2)
	own := thing{1, [3]string{"a", "b", "c"}}
	was := own
	x.push(own)
	own.n, own.list[1] = 9, "changed"
	x.stands(was)
	x.push(own)
	front, _ := x.r.Front()
	front.list[0] = "changed"
	x.r.All()[0].list[0] = "changed"
	x.stands(was, own)
	first, _ := x.r.Pop()
	if first != was {
		t.Errorf("%v, want %v", first, was)
	}
	first.n = 10
	x.stands(own)
}

// Words: of a slice the value is copied, which bytes it is of; the bytes themselves are not.
func TestSlices(t *testing.T) {
	r, _ := ring.New[[]byte](2)
	own := []byte("abc")
	if e := r.Push(own[:2]); e != api.OK {
		t.Fatal(e)
	}
	own[0] = 'X'
	own = append(own[:0:0], "other"...)
	if f, is := r.Front(); string(f) != "Xb" || !is || cap(f) < 3 || string(f[:3]) != "Xbc" {
		t.Errorf("Front = %q, %v", f, is)
	}
	r.All()[0] = own
	r.All()[0][1] = 'Y'
	r.Push(nil)
	r.Push([]byte("refused"))
	if p, is := r.Pop(); string(p) != "XY" || !is {
		t.Errorf("Pop = %q, %v", p, is)
	}
	if p, is := r.Pop(); p != nil || !is {
		t.Errorf("Pop = %q, %v, want nil, true", p, is)
	}
	if p, is := r.Pop(); p != nil || is {
		t.Errorf("Pop = %q, %v, want nil, false", p, is)
	}
}

// Words: what a map, a pointer, a function and an interface value point to is the one that was put.
func TestWhatIsPointedTo(t *testing.T) {
	count := 0
	m, p := map[string]int{}, &api.Alert{Path: 1}
	maps, _ := ring.New[map[string]int](1)
	pointers, _ := ring.New[*api.Alert](1)
	calls, _ := ring.New[func()](1)
	values, _ := ring.New[any](2)
	maps.Push(m)
	pointers.Push(p)
	calls.Push(func() { count++ })
	values.Push(p)
	values.Push(5)
	m["a"], p.Path = 1, 2
	if got, _ := maps.Pop(); got["a"] != 1 {
		t.Errorf("%v", got)
	}
	if got, _ := pointers.Pop(); got != p || got.Path != 2 {
		t.Errorf("%v", got)
	}
	call, _ := calls.Front()
	call()
	if call, _ = calls.Pop(); call == nil {
		t.Fatal("no call")
	}
	call()
	if count != 2 {
		t.Errorf("%d calls", count)
	}
	if got := values.All(); !slices.Equal(got, []any{p, 5}) {
		t.Errorf("%v", got)
	}
}

// P18.2: things that are unlike themselves, or that nothing can compare, are kept too.
func TestAnyThing(t *testing.T) {
	r, _ := ring.New[any](3)
	var zero float64
	for _, x := range []any{zero / zero, []int{1}, func() {}} {
		if e := r.Push(x); e != api.OK {
			t.Fatal(e)
		}
	}
	if f, _ := r.Pop(); f == f {
		t.Errorf("%v", f)
	}
	if l, _ := r.Pop(); !slices.Equal(l.([]int), []int{1}) {
		t.Errorf("%v", l)
	}
	if f, is := r.Pop(); f == nil || !is {
		t.Error("the function is gone")
	}
}

// P18.4: a ring of rings; what a thing itself holds is no matter of the ring that it stands in.
func TestRingOfRings(t *testing.T) {
	outer, _ := ring.New[*ring.Ring[int]](2)
	for k := range 2 {
		inner, _ := ring.New[int](3)
		inner.Push(k)
		outer.Push(inner)
	}
	for k, inner := range outer.All() {
		if e := inner.Push(10 + k); e != api.OK {
			t.Error(e)
		}
	}
	for k := range 2 {
		inner, _ := outer.Pop()
		if got, want := inner.All(), []int{k, 10 + k}; !slices.Equal(got, want) {
			t.Errorf("%v, want %v", got, want)
		}
	}
}

// P18.3: a thing that was popped is let go, and so is one that was refused.
func TestLetsGo(t *testing.T) {
	r, _ := ring.New[*api.Alert](4)
	var seen []weak.Pointer[api.Alert]
	for k := range 6 {
		x := &api.Alert{Path: k}
		seen = append(seen, weak.Make(x))
		if e := r.Push(x); (e != api.OK) != (k >= 4) {
			t.Fatalf("Push %d: %v", k, e)
		}
	}
	r.Pop()
	r.Pop()
	r.All()
	for range 3 {
		runtime.GC()
	}
	for k, x := range seen {
		if there := x.Value() != nil; there != (k == 2 || k == 3) {
			t.Errorf("thing %d is kept: %v", k, there)
		}
	}
	if f, is := r.Front(); !is || f.Path != 2 {
		t.Errorf("%v, %v", f, is)
	}
}
