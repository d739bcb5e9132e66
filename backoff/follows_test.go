package backoff_test

import (
	"math"
	"sync"
	"testing"
	"time"

	"heron/api"
	"heron/backoff"
)

// rightDelay is a delay that isn't refused.
func rightDelay(t *testing.T, base, most, k int) int {
	t.Helper()
	d, e := backoff.Delay(base, most, k)
	if e != api.OK {
		t.Fatalf("Delay(%d, %d, %d): %v", base, most, k, e)
	}
	return d
}

// rightSum is a sum that isn't refused.
func rightSum(t *testing.T, base, most, n int) int {
	t.Helper()
	s, e := backoff.Sum(base, most, n)
	if e != api.OK {
		t.Fatalf("Sum(%d, %d, %d): %v", base, most, n, e)
	}
	return s
}

// pairs are bases and mosts that may be: the edges, and some by chance.
func pairs() [][2]int {
	var all [][2]int
	for _, base := range rightTimes() {
		for _, most := range rightTimes() {
			all = append(all, [2]int{base, most})
		}
	}
	c := chance(1)
	for range 300 {
		all = append(all, [2]int{c.time(), c.time()})
	}
	return all
}

// P19.4: the delay never falls, at most doubles, is never above most, and has come to it below the 41st for ever (to 0, if base is 0).
func TestDelayGrows(t *testing.T) {
	for _, p := range pairs() {
		base, most := p[0], p[1]
		before := rightDelay(t, base, most, 0)
		if before != min(base, most) {
			t.Errorf("Delay(%d, %d, 0) = %d", base, most, before)
		}
		for k := 1; k < 100; k++ {
			d := rightDelay(t, base, most, k)
			if d < before || d > 2*before || d > most {
				t.Errorf("Delay(%d, %d, %d) = %d, behind %d", base, most, k, d, before)
			}
			before = d
		}
		last := most
		if base == 0 {
			last = 0
		}
		for _, k := range rightRefusals() {
			if d := rightDelay(t, base, most, k); k >= 40 && d != last {
				t.Errorf("Delay(%d, %d, %d) = %d, want %d", base, most, k, d, last)
			}
		}
	}
}

// P19.4: where the delay has come to most, it stays.
func TestDelayStays(t *testing.T) {
	for _, p := range pairs() {
		base, most := p[0], p[1]
		come := false
		for k := range 64 {
			d := rightDelay(t, base, most, k)
			if come && d != most {
				t.Errorf("Delay(%d, %d, %d) = %d: it had come to most", base, most, k, d)
			}
			come = come || d == most
		}
	}
}

// P19.4: a sum is the one before it and one delay more, from none on.
func TestSumGoesOn(t *testing.T) {
	for _, p := range pairs() {
		base, most := p[0], p[1]
		sum := 0
		for n := range 100 {
			if s := rightSum(t, base, most, n); s != sum {
				t.Errorf("Sum(%d, %d, %d) = %d, want %d", base, most, n, s, sum)
			}
			sum += rightDelay(t, base, most, n)
		}
	}
}

// P19.3, P19.4: the greatest sums against the delays added one by one.
func TestGreatSums(t *testing.T) {
	for _, p := range [][2]int{{1, greatest}, {3, 100}, {7, 3}, {0, 9}, {greatest, greatest}} {
		sum := 0
		for k := range 1 << 20 {
			if k > 1<<20-3 {
				asker{t}.sum(p[0], p[1], k, sum, api.OK)
			}
			sum += rightDelay(t, p[0], p[1], k)
		}
		asker{t}.sum(p[0], p[1], 1<<20, sum, api.OK)
	}
}

// P19.4: Due is at least now, and at most now, most and limit together.
func TestDueIsBetween(t *testing.T) {
	c := chance(2)
	for range 50_000 {
		now, base, most, k, limit := c.now(), c.time(), c.time(), c.refusal(), c.time()
		jitter := c.any()
		d, e := backoff.Due(now, base, most, k, jitter, limit)
		if e != api.OK || d < now || d > now+most+limit {
			t.Errorf("Due(%d, %d, %d, %d, %d, %d) = %d, %v", now, base, most, k, jitter, limit, d, e)
		}
	}
	for _, most := range rightTimes() {
		for _, limit := range rightTimes() {
			asker{t}.due(1<<61, most, most, 0, limit, limit, 1<<61+most+limit, api.OK)
			asker{t}.due(1<<61, 0, most, 0, 0, limit, 1<<61, api.OK)
		}
	}
}

// P19.1 to P19.3: right numbers by chance, of any length; no answer wraps.
func TestRightByChance(t *testing.T) {
	c, a := chance(3), asker{t}
	for range 100_000 {
		base, most := c.time(), c.time()
		a.delayAsSlow(base, most, c.refusal())
		a.dueAsSlow(c.now(), base, most, c.refusal(), c.any(), c.time())
		a.sumAsSlow(base, most, c.Intn(100))
	}
	for range 100 {
		a.sumAsSlow(c.time(), c.time(), c.Intn(1<<20+1))
	}
}

// P19.5, W1, W2: numbers of any kind by chance, one of them or all.
func TestAnyByChance(t *testing.T) {
	c, a := chance(4), asker{t}
	for range 100_000 {
		a.delayAsSlow(c.any(), c.any(), c.any())
		a.dueAsSlow(c.any(), c.any(), c.any(), c.any(), c.any(), c.any())
		a.sumAsSlow(c.any(), c.any(), c.any())

		n := [6]int{c.now(), c.time(), c.time(), c.refusal(), c.any(), c.time()}
		n[c.Intn(6)] = c.any()
		a.delayAsSlow(n[1], n[2], n[3])
		a.dueAsSlow(n[0], n[1], n[2], n[3], n[4], n[5])
		a.sumAsSlow(n[1], n[2], min(n[3], 200))
	}
}

// P19.5: the greatest numbers end soon.
func TestGreatestEndSoon(t *testing.T) {
	done := make(chan bool)
	go func() {
		defer close(done)
		askGreatest(t)
	}()
	select {
	case <-done:
	case <-time.After(60 * time.Second):
		t.Fatal("it doesn't end soon")
	}
}

// askGreatest asks for the delays and moments behind the greatest refusals there are, and for the greatest sums.
func askGreatest(t *testing.T) {
	a := asker{t}
	for _, base := range rightTimes() {
		for _, most := range rightTimes() {
			for _, k := range []int{1 << 62, math.MaxInt - 1, math.MaxInt} {
				for range 1000 {
					a.delayAsSlow(base, most, k)
				}
				a.dueAsSlow(1<<61, base, most, k, math.MaxInt, greatest)
			}
			a.sumAsSlow(base, most, 1<<20)
			a.sum(base, most, math.MaxInt, 0, api.ErrInval)
		}
	}
}

// W5: nothing is kept: what was asked ahead, and by whom, is not to be seen.
func TestAskedAtOnce(t *testing.T) {
	var all sync.WaitGroup
	for i := range 8 {
		all.Go(func() {
			c, a := chance(int64(100+i)), asker{t}
			for range 500 {
				a.delayAsSlow(c.any(), c.time(), c.refusal())
				a.delay(3, 100, 5, 96, api.OK)
				a.dueAsSlow(c.now(), c.time(), c.time(), c.refusal(), c.any(), c.any())
				a.due(10, 3, 100, 1, 4, 9, 20, api.OK)
				a.sumAsSlow(c.time(), c.time(), c.Intn(100))
				a.sum(3, 100, 7, 289, api.OK)
			}
		})
	}
	all.Wait()
}
