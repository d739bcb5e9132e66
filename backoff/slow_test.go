package backoff_test

import (
	"math"
	"math/big"
	"math/rand"

	"heron/api"
)

// What the tests hold the package against: the chapter's words in another way, slow and plain, with numbers that can't wrap.

const greatest = 1 << 40 // MaxDelay, as the chapter tells it

// far is a refusal behind which no delay grows any more.
const far = 41

// slowDelay is P19.1.
func slowDelay(base, most, k int) (int, api.Errno) {
	if base < 0 || base > greatest || most < 0 || most > greatest || k < 0 {
		return 0, api.ErrInval
	}
	return number(bigDelay(base, most, k)), api.OK
}

// bigDelay is base times 2 to the power of k, or most, if that is less.
func bigDelay(base, most, k int) *big.Int {
	delay := new(big.Int).Lsh(big.NewInt(int64(base)), uint(min(k, 1000)))
	if top := big.NewInt(int64(most)); top.Cmp(delay) < 0 {
		return top
	}
	return delay
}

// slowDue is P19.2.
func slowDue(now, base, most, k, jitter, limit int) (int, api.Errno) {
	if _, e := slowDelay(base, most, k); e != api.OK || now < 0 || now > 1<<61 || limit < 0 || limit > greatest {
		return 0, api.ErrInval
	}
	switch {
	case jitter < 0:
		jitter = 0
	case jitter > limit:
		jitter = limit
	}
	due := bigDelay(base, most, k)
	due.Add(due, big.NewInt(int64(now)))
	return number(due.Add(due, big.NewInt(int64(jitter)))), api.OK
}

// slowSum is P19.3: the delays that still grow one by one, the others at once.
func slowSum(base, most, n int) (int, api.Errno) {
	if base < 0 || base > greatest || most < 0 || most > greatest || n < 0 || n > 1<<20 {
		return 0, api.ErrInval
	}
	sum := new(big.Int)
	for k := range min(n, far) {
		sum.Add(sum, bigDelay(base, most, k))
	}
	rest := big.NewInt(int64(max(n-far, 0)))
	return number(sum.Add(sum, rest.Mul(rest, bigDelay(base, most, far)))), api.OK
}

// number is a number that an int has; no right answer is another one.
func number(n *big.Int) int {
	if !n.IsInt64() {
		panic("no int: " + n.String())
	}
	return int(n.Int64())
}

// times are the edges of base, most and limit; the last ones may not be.
func times() []int {
	return append(rightTimes(), wrong(greatest)...)
}

// rightTimes are those of them that may be.
func rightTimes() []int {
	return []int{0, 1, 2, 3, 5, 100, 1<<31 - 1, 1 << 31, 1 << 32, 1<<39 - 1, 1 << 39, 1<<39 + 1, greatest - 1, greatest}
}

// wrong are numbers that may not be where 0 to most may.
func wrong(most int) []int {
	return []int{-1, -2, -3, -most, -most - 1, math.MinInt32, math.MinInt + 1, math.MinInt, most + 1, most + 2, 2 * most, math.MaxInt - 1, math.MaxInt}
}

// refusals are the edges of k; the last ones may not be.
func refusals() []int {
	return append(rightRefusals(), -1, -2, -40, math.MinInt32, math.MinInt+1, math.MinInt)
}

// rightRefusals are those of them that may be.
func rightRefusals() []int {
	return []int{0, 1, 2, 3, 7, 31, 32, 33, 38, 39, 40, 41, 42, 61, 62, 63, 64, 65, 127, 128, 255, 256, 1 << 20, math.MaxInt32, 1 << 32, 1<<32 + 1, 1 << 62, math.MaxInt - 1, math.MaxInt}
}

// jitters are the edges of a jitter with a limit.
func jitters(limit int) []int {
	return []int{0, 1, -1, -limit, limit - 1, limit, limit + 1, 2 * limit, greatest, greatest + 1, 1 << 61, 1 << 62, math.MaxInt - 1, math.MaxInt, math.MinInt32, math.MinInt + 1, math.MinInt}
}

// chooser chooses by chance.
type chooser struct{ *rand.Rand }

// chance is one that always chooses alike.
func chance(seed int64) chooser { return chooser{rand.New(rand.NewSource(seed))} }

// any is a number by chance: of any sign, and of any length as likely as of any other.
func (c chooser) any() int { return int(c.Uint64()) >> c.Intn(64) }

// time is a number of ticks that may be, of any length.
func (c chooser) time() int { return c.Intn(greatest+1) >> c.Intn(41) }

// now is a moment that may be, of any length.
func (c chooser) now() int { return c.Intn(1<<61+1) >> c.Intn(62) }

// refusal is one that may be, most often one behind which the delay may still grow.
func (c chooser) refusal() int {
	if c.Intn(4) == 0 {
		return c.Int() >> c.Intn(63)
	}
	return c.Intn(45)
}
