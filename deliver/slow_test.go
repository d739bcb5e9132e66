package deliver_test

import (
	"math"
	"math/big"
	"math/rand"
	"strconv"

	"heron/api"
)

// What the tests hold the package against: the chapter's words in another way, slow and plain, with numbers that can't wrap.

const (
	greatest = 1 << 40 // MaxDelay, as the chapter tells it
	lastTime = 1 << 61 // the greatest time
)

// slowDeliverer keeps all that was ever pushed, sent and answered, and works everything out from that.
type slowDeliverer struct {
	places, base, most, jitter int
	pushed                     []api.Alert // those that were not refused
	turns                      []turn
}

// turn is a Send that handed something on, or an Answer that met an alert with the sink.
type turn struct {
	sent   bool
	yes    bool
	time   int
	jitter int
}

// held is a number that is handed in, taken as the nearest one that is from 0 to most.
func held(n, most int) int {
	if n < 0 {
		return 0
	}
	if n > most {
		return most
	}
	return n
}

// taken is how many were taken.
func (s *slowDeliverer) taken() int {
	n := 0
	for _, t := range s.turns {
		if !t.sent && t.yes {
			n++
		}
	}
	return n
}

// withSink tells whether the last turn was a Send.
func (s *slowDeliverer) withSink() bool {
	return len(s.turns) > 0 && s.turns[len(s.turns)-1].sent
}

// refusals is those answers that the first has had: all behind the last yes.
func (s *slowDeliverer) refusals() []turn {
	var all []turn
	for _, t := range s.turns {
		switch {
		case t.sent:
		case t.yes:
			all = nil
		default:
			all = append(all, t)
		}
	}
	return all
}

// Queue is P20.5.
func (s *slowDeliverer) Queue() []api.Alert { return s.pushed[s.taken():] }

// Full is P20.5.
func (s *slowDeliverer) Full() bool { return len(s.Queue()) == s.places }

// Wait is P20.5.
func (s *slowDeliverer) Wait() int {
	all := s.refusals()
	if len(all) == 0 {
		return 0
	}
	last := all[len(all)-1]
	wait := new(big.Int).Lsh(big.NewInt(int64(s.base)), uint(len(all)-1))
	if most := big.NewInt(int64(s.most)); most.Cmp(wait) < 0 {
		wait = most
	}
	wait.Add(wait, big.NewInt(int64(held(last.time, lastTime))))
	wait.Add(wait, big.NewInt(int64(held(last.jitter, s.jitter))))
	if !wait.IsInt64() {
		panic("no int: " + wait.String())
	}
	return int(wait.Int64())
}

// Push is P20.2.
func (s *slowDeliverer) Push(a api.Alert) api.Errno {
	if len(s.Queue()) == s.places {
		return api.ErrRing
	}
	s.pushed = append(s.pushed, a)
	return api.OK
}

// Send is P20.3.
func (s *slowDeliverer) Send(now int) (api.Alert, int, bool) {
	queue := s.Queue()
	if len(queue) == 0 || s.withSink() || held(now, lastTime) < s.Wait() {
		return api.Alert{}, 0, false
	}
	s.turns = append(s.turns, turn{sent: true})
	return queue[0], len(s.refusals()) + 1, true
}

// Answer is P20.4.
func (s *slowDeliverer) Answer(yes bool, now, jitter int) (api.Alert, bool) {
	if !s.withSink() {
		return api.Alert{}, false
	}
	first := s.Queue()[0]
	s.turns = append(s.turns, turn{yes: yes, time: now, jitter: jitter})
	return first, true
}

// alert is one that no other number has, with something in each of its fields.
func alert(k int) api.Alert {
	loss := api.Loss{Missed: k, Gone: k + 1, Cuts: k + 2, Tails: k + 3, Long: k + 4}
	mark := api.Mark{Serial: k + 5, Inode: k + 6, Gen: k + 7, Off: k + 8, Loss: loss}
	return api.Alert{Path: k % 8, Mark: mark, Text: "line " + strconv.Itoa(k), Rules: uint32(k + 1)}
}

// times are the edges of a time that is handed in.
func times() []int {
	return []int{0, 1, -1, -5, 2, 7, 100, greatest, 1<<61 - 1, 1 << 61, 1<<61 + 1, 1<<61 + 1<<41, 1 << 62, math.MaxInt32, math.MinInt32, math.MaxInt - 1, math.MaxInt, math.MinInt, math.MinInt + 1}
}

// jitters are the edges of a jitter that is handed in, New's being most.
func jitters(most int) []int {
	return []int{0, 1, -1, -most, most - 1, most, most + 1, 2 * most, greatest, greatest + 1, 1 << 61, math.MaxInt - 1, math.MaxInt, math.MinInt32, math.MinInt, math.MinInt + 1}
}

// chooser chooses by chance.
type chooser struct{ *rand.Rand }

// chance is one that always chooses alike.
func chance(seed int64) chooser { return chooser{rand.New(rand.NewSource(seed))} }

// delay is a number of ticks that New takes, of any length.
func (c chooser) delay() int { return c.Intn(greatest+1) >> c.Intn(41) }

// among is one of a list.
func (c chooser) among(list []int) int { return list[c.Intn(len(list))] }

// near is a time about another one: a little below it, at it, or above it; or one that is far away.
func (c chooser) near(time int) int {
	switch c.Intn(6) {
	case 0:
		return time - 1 - c.Intn(3)
	case 1, 2:
		return time
	case 3:
		return time + c.Intn(5)
	case 4:
		return int(c.Uint64()) >> c.Intn(64)
	}
	return c.among(times())
}
