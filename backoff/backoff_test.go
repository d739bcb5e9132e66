package backoff_test

import (
	"math"
	"testing"

	"heron/api"
	"heron/backoff"
)

// asker asks a call and says so if its answer isn't the one that it is to be.
type asker struct{ *testing.T }

func (t asker) delay(base, most, k, want int, wantE api.Errno) {
	t.Helper()
	if d, e := backoff.Delay(base, most, k); d != want || e != wantE {
		t.Errorf("Delay(%d, %d, %d) = %d, %v, want %d, %v", base, most, k, d, e, want, wantE)
	}
}

func (t asker) due(now, base, most, k, jitter, limit, want int, wantE api.Errno) {
	t.Helper()
	if d, e := backoff.Due(now, base, most, k, jitter, limit); d != want || e != wantE {
		t.Errorf("Due(%d, %d, %d, %d, %d, %d) = %d, %v, want %d, %v", now, base, most, k, jitter, limit, d, e, want, wantE)
	}
}

func (t asker) sum(base, most, n, want int, wantE api.Errno) {
	t.Helper()
	if s, e := backoff.Sum(base, most, n); s != want || e != wantE {
		t.Errorf("Sum(%d, %d, %d) = %d, %v, want %d, %v", base, most, n, s, e, want, wantE)
	}
}

// delayAsSlow, dueAsSlow and sumAsSlow ask for what the chapter's words done slowly tell.
func (t asker) delayAsSlow(base, most, k int) {
	t.Helper()
	want, e := slowDelay(base, most, k)
	t.delay(base, most, k, want, e)
}

func (t asker) dueAsSlow(now, base, most, k, jitter, limit int) {
	t.Helper()
	want, e := slowDue(now, base, most, k, jitter, limit)
	t.due(now, base, most, k, jitter, limit, want, e)
}

func (t asker) sumAsSlow(base, most, n int) {
	t.Helper()
	want, e := slowSum(base, most, n)
	t.sum(base, most, n, want, e)
}

// P19.1: the chapter's examples.
func TestDelayExamples(t *testing.T) {
	a := asker{t}
	a.delay(3, 100, 0, 3, api.OK)
	a.delay(3, 100, 5, 96, api.OK)
	a.delay(3, 100, 6, 100, api.OK)
	a.delay(3, 2, 0, 2, api.OK)
	a.delay(0, 100, 9, 0, api.OK)
	a.delay(1, 1<<40, 1<<62, 1<<40, api.OK)
	a.delay(1, 1<<40, 40, 1<<40, api.OK)
	a.delay(-1, 5, 0, 0, api.ErrInval)
	a.delay(5, 1<<40+1, 0, 0, api.ErrInval)
	a.delay(5, 5, -1, 0, api.ErrInval)
}

// P19.2: the chapter's examples.
func TestDueExamples(t *testing.T) {
	a := asker{t}
	a.due(10, 3, 100, 1, 4, 9, 20, api.OK)
	a.due(10, 3, 100, 1, 40, 9, 25, api.OK)
	a.due(10, 3, 100, 1, -5, 9, 16, api.OK)
	a.due(1<<61, 1<<40, 1<<40, 0, 1<<62, 1<<40, 1<<61+1<<41, api.OK)
	a.due(-1, 3, 100, 1, 4, 9, 0, api.ErrInval)
	a.due(1<<61+1, 3, 100, 1, 4, 9, 0, api.ErrInval)
	a.due(10, 3, 100, 1, 4, -1, 0, api.ErrInval)
}

// P19.3: the chapter's examples.
func TestSumExamples(t *testing.T) {
	a := asker{t}
	a.sum(3, 100, 0, 0, api.OK)
	a.sum(3, 100, 7, 289, api.OK)
	a.sum(1<<40, 1<<40, 1<<20, 1<<60, api.OK)
	a.sum(1, 1, 1<<20+1, 0, api.ErrInval)
	a.sum(1, 1, -1, 0, api.ErrInval)
}

// P19.1: Delay at the edges of its numbers, written out.
func TestDelayEdges(t *testing.T) {
	a := asker{t}
	// base
	a.delay(0, 1<<40, 0, 0, api.OK)
	a.delay(0, 1<<40, math.MaxInt, 0, api.OK)
	a.delay(1<<40, 1<<40, 0, 1<<40, api.OK)
	a.delay(1<<40+1, 1<<40, 0, 0, api.ErrInval)
	a.delay(-1, 1<<40, 0, 0, api.ErrInval)
	a.delay(math.MinInt, 1<<40, 1, 0, api.ErrInval)
	a.delay(math.MaxInt, 1<<40, 1, 0, api.ErrInval)
	// most
	a.delay(5, 0, 0, 0, api.OK)
	a.delay(5, 0, math.MaxInt, 0, api.OK)
	a.delay(0, 0, math.MaxInt, 0, api.OK)
	a.delay(0, -1, 0, 0, api.ErrInval)
	a.delay(0, 1<<40+1, 0, 0, api.ErrInval)
	a.delay(5, math.MinInt, 1, 0, api.ErrInval)
	a.delay(5, math.MaxInt, 1, 0, api.ErrInval)
	// base above most, at it, below it
	a.delay(7, 6, 0, 6, api.OK)
	a.delay(7, 6, math.MaxInt, 6, api.OK)
	a.delay(1<<40, 1, 40, 1, api.OK)
	a.delay(7, 7, 0, 7, api.OK)
	a.delay(7, 7, 1, 7, api.OK)
	a.delay(7, 8, 0, 7, api.OK)
	a.delay(7, 8, 1, 8, api.OK)
	// k
	a.delay(1, 1<<40, 39, 1<<39, api.OK)
	a.delay(1, 1<<40, 40, 1<<40, api.OK)
	a.delay(1, 1<<40, 41, 1<<40, api.OK)
	a.delay(1, 1<<40, 64, 1<<40, api.OK)
	a.delay(1, 1<<40, math.MaxInt, 1<<40, api.OK)
	a.delay(1, 1<<40, -1, 0, api.ErrInval)
	a.delay(1, 1<<40, math.MinInt, 0, api.ErrInval)
	a.delay(0, 0, -1, 0, api.ErrInval)
	// just at most, one below it, one above it
	a.delay(3, 96, 5, 96, api.OK)
	a.delay(3, 95, 5, 95, api.OK)
	a.delay(3, 97, 5, 96, api.OK)
	a.delay(3, 97, 6, 97, api.OK)
}

// P19.1: Delay at all edges together.
func TestDelayAtAllEdges(t *testing.T) {
	for _, base := range times() {
		for _, most := range times() {
			for _, k := range refusals() {
				asker{t}.delayAsSlow(base, most, k)
			}
		}
	}
}

// P19.1: all small numbers.
func TestDelaySmall(t *testing.T) {
	for base := -2; base <= 40; base++ {
		for most := -2; most <= 70; most++ {
			for k := -2; k <= 9; k++ {
				asker{t}.delayAsSlow(base, most, k)
			}
		}
	}
}

// P19.1: powers of two and their neighbours.
func TestDelayPowers(t *testing.T) {
	for i := range 41 {
		for j := range 41 {
			for k := range 44 {
				for _, by := range [][2]int{{0, 0}, {-1, 0}, {1, 0}, {0, -1}, {0, 1}, {1, 1}, {-1, -1}} {
					asker{t}.delayAsSlow(1<<i+by[0], 1<<j+by[1], k)
				}
			}
		}
	}
}

// P19.2: Due at the edges of its numbers, written out.
func TestDueEdges(t *testing.T) {
	a := asker{t}
	// now
	a.due(0, 3, 100, 1, 4, 9, 10, api.OK)
	a.due(1<<61, 3, 100, 1, 4, 9, 1<<61+10, api.OK)
	a.due(math.MinInt, 3, 100, 1, 4, 9, 0, api.ErrInval)
	a.due(math.MaxInt, 3, 100, 1, 4, 9, 0, api.ErrInval)
	a.due(1<<62, 3, 100, 1, 4, 9, 0, api.ErrInval)
	// limit
	a.due(10, 3, 100, 1, 5, 0, 16, api.OK)
	a.due(10, 3, 100, 1, 1<<40, 1<<40, 16+1<<40, api.OK)
	a.due(10, 3, 100, 1, 4, 1<<40+1, 0, api.ErrInval)
	a.due(10, 3, 100, 1, 4, math.MinInt, 0, api.ErrInval)
	a.due(10, 3, 100, 1, 4, math.MaxInt, 0, api.ErrInval)
	// jitter
	a.due(10, 3, 100, 1, -1, 9, 16, api.OK)
	a.due(10, 3, 100, 1, 0, 9, 16, api.OK)
	a.due(10, 3, 100, 1, 1, 9, 17, api.OK)
	a.due(10, 3, 100, 1, 8, 9, 24, api.OK)
	a.due(10, 3, 100, 1, 9, 9, 25, api.OK)
	a.due(10, 3, 100, 1, 10, 9, 25, api.OK)
	a.due(10, 3, 100, 1, math.MinInt, 9, 16, api.OK)
	a.due(10, 3, 100, 1, math.MaxInt, 9, 25, api.OK)
	a.due(10, 3, 100, 1, math.MaxInt, 1<<40, 16+1<<40, api.OK)
	// what Delay refuses
	a.due(10, -1, 100, 1, 4, 9, 0, api.ErrInval)
	a.due(10, 1<<40+1, 100, 1, 4, 9, 0, api.ErrInval)
	a.due(10, 3, -1, 1, 4, 9, 0, api.ErrInval)
	a.due(10, 3, 1<<40+1, 1, 4, 9, 0, api.ErrInval)
	a.due(10, 3, 100, -1, 4, 9, 0, api.ErrInval)
	// the delay is Delay's, the jitter not held down to most
	a.due(10, 3, 100, 6, 9, 9, 119, api.OK)
	a.due(10, 3, 2, 0, 9, 9, 21, api.OK)
	a.due(0, 0, 0, 0, 0, 0, 0, api.OK)
	a.due(0, 0, 0, math.MaxInt, 5, 9, 5, api.OK)
}

// P19.2: Due at the edges of now, limit and jitter together.
func TestDueAtAllEdges(t *testing.T) {
	nows := append([]int{0, 1, 10, 1 << 32, 1<<61 - 1, 1 << 61}, wrong(1<<61)...)
	delays := [][3]int{{3, 100, 1}, {0, 0, 0}, {0, 5, 9}, {5, 0, 9}, {1, greatest, 39}, {1, greatest, 40}, {greatest, greatest, 0}, {greatest, greatest, math.MaxInt}}
	for _, now := range nows {
		for _, limit := range times() {
			for _, jitter := range jitters(limit) {
				for _, d := range delays {
					asker{t}.dueAsSlow(now, d[0], d[1], d[2], jitter, limit)
				}
			}
		}
	}
}

// P19.2: Due at the edges of what Delay is handed, whatever the rest is.
func TestDueAtDelaysEdges(t *testing.T) {
	for _, base := range times() {
		for _, most := range times() {
			for _, k := range refusals() {
				asker{t}.dueAsSlow(10, base, most, k, 4, 9)
				asker{t}.dueAsSlow(1<<61, base, most, k, 1<<62, greatest)
			}
		}
	}
}

// P19.2: all small numbers.
func TestDueSmall(t *testing.T) {
	for now := -1; now <= 2; now++ {
		for base := -1; base <= 3; base++ {
			for most := -1; most <= 5; most++ {
				for k := -1; k <= 3; k++ {
					for jitter := -2; jitter <= 5; jitter++ {
						for limit := -1; limit <= 4; limit++ {
							asker{t}.dueAsSlow(now, base, most, k, jitter, limit)
						}
					}
				}
			}
		}
	}
}

// P19.3: Sum at the edges of its numbers, written out.
func TestSumEdges(t *testing.T) {
	a := asker{t}
	// n
	a.sum(3, 100, 1, 3, api.OK)
	a.sum(3, 100, 2, 9, api.OK)
	a.sum(3, 100, 6, 189, api.OK)
	a.sum(3, 100, 8, 389, api.OK)
	a.sum(3, 100, 1<<20, 189+100*(1<<20-6), api.OK)
	a.sum(3, 100, 1<<20+1, 0, api.ErrInval)
	a.sum(3, 100, -1, 0, api.ErrInval)
	a.sum(3, 100, math.MinInt, 0, api.ErrInval)
	a.sum(3, 100, math.MaxInt, 0, api.ErrInval)
	a.sum(3, 100, 1<<32, 0, api.ErrInval)
	// base and most
	a.sum(0, 100, 1<<20, 0, api.OK)
	a.sum(5, 0, 1<<20, 0, api.OK)
	a.sum(0, 0, 1, 0, api.OK)
	a.sum(7, 3, 4, 12, api.OK)
	a.sum(7, 3, 1, 3, api.OK)
	a.sum(1, 1<<40, 40, 1<<40-1, api.OK)
	a.sum(1, 1<<40, 41, 1<<41-1, api.OK)
	a.sum(1, 1<<40, 42, 1<<41-1+1<<40, api.OK)
	a.sum(1<<40, 1<<40, 1, 1<<40, api.OK)
	// they are refused where nothing would be added too
	a.sum(-1, 1, 0, 0, api.ErrInval)
	a.sum(1, -1, 0, 0, api.ErrInval)
	a.sum(1<<40+1, 1, 0, 0, api.ErrInval)
	a.sum(1, 1<<40+1, 0, 0, api.ErrInval)
	a.sum(math.MinInt, 1, 1, 0, api.ErrInval)
	a.sum(1, math.MaxInt, 1, 0, api.ErrInval)
}

// P19.3: Sum at all edges together.
func TestSumAtAllEdges(t *testing.T) {
	ns := append([]int{0, 1, 2, 39, 40, 41, 42, 43, 64, 1000}, wrong(1<<20)...)
	for _, base := range times() {
		for _, most := range times() {
			for _, n := range ns {
				asker{t}.sumAsSlow(base, most, n)
			}
		}
	}
	for _, base := range []int{0, 1, 3, 1<<39 + 1, greatest - 1, greatest} {
		for _, most := range []int{0, 1, 100, greatest - 1, greatest} {
			asker{t}.sumAsSlow(base, most, 1<<20-1)
			asker{t}.sumAsSlow(base, most, 1<<20)
		}
	}
}

// P19.3: all small numbers.
func TestSumSmall(t *testing.T) {
	for base := -2; base <= 20; base++ {
		for most := -2; most <= 40; most++ {
			for n := -2; n <= 12; n++ {
				asker{t}.sumAsSlow(base, most, n)
			}
		}
	}
}
