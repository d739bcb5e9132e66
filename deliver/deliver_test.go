package deliver_test

import (
	"math"
	"reflect"
	"runtime"
	"slices"
	"strings"
	"testing"

	"heron/api"
	"heron/deliver"
)

// tester is a deliverer that is asked behind each call how it stands.
type tester struct {
	*testing.T
	d      *deliver.Deliverer
	places int
	wait   int
	queue  []api.Alert
}

// fresh is a new deliverer, without an alert.
func fresh(t *testing.T, queue, base, most, jitter int) *tester {
	t.Helper()
	d, e := deliver.New(queue, base, most, jitter)
	if d == nil || e != api.OK {
		t.Fatalf("New(%d, %d, %d, %d): %v, %v", queue, base, most, jitter, d, e)
	}
	x := &tester{T: t, d: d, places: queue}
	x.stands()
	return x
}

// stands asks for all that may be asked, twice: asking changes nothing, and the answers may be written over.
func (x *tester) stands() {
	x.Helper()
	for range 2 {
		if n := x.d.Wait(); n != x.wait {
			x.Fatalf("Wait = %d, want %d", n, x.wait)
		}
		if full := x.d.Full(); full != (len(x.queue) == x.places) {
			x.Fatalf("Full = %v with %d of %d", full, len(x.queue), x.places)
		}
		all := x.d.Queue()
		if !slices.Equal(all, x.queue) {
			x.Fatalf("Queue = %v, want %v", all, x.queue)
		}
		clear(all[:cap(all)])
	}
}

// push pushes alerts that are taken up.
func (x *tester) push(numbers ...int) {
	x.Helper()
	for _, k := range numbers {
		if e := x.d.Push(alert(k)); e != api.OK {
			x.Fatalf("Push(%d): %v", k, e)
		}
		x.queue = append(x.queue, alert(k))
		x.stands()
	}
}

// full pushes an alert that isn't taken up.
func (x *tester) full(k int) {
	x.Helper()
	if e := x.d.Push(alert(k)); e != api.ErrRing {
		x.Fatalf("Push(%d): %v, want %v", k, e, api.ErrRing)
	}
	x.stands()
}

// sends sends the first, for the so many-th time.
func (x *tester) sends(now, attempt int) {
	x.Helper()
	if a, n, is := x.d.Send(now); a != x.queue[0] || n != attempt || !is {
		x.Fatalf("Send(%d) = %v, %d, %v, want %v, %d, true", now, a, n, is, x.queue[0], attempt)
	}
	x.stands()
}

// rests sends where nothing is to be sent.
func (x *tester) rests(now int) {
	x.Helper()
	if a, n, is := x.d.Send(now); a != (api.Alert{}) || n != 0 || is {
		x.Fatalf("Send(%d) = %v, %d, %v, want nothing", now, a, n, is)
	}
	x.stands()
}

// yes takes the first, which is with the sink.
func (x *tester) yes(now, jitter int) {
	x.Helper()
	if a, is := x.d.Answer(true, now, jitter); a != x.queue[0] || !is {
		x.Fatalf("Answer(yes, %d, %d) = %v, %v, want %v, true", now, jitter, a, is, x.queue[0])
	}
	x.queue, x.wait = x.queue[1:], 0
	x.stands()
}

// no refuses the first, which is with the sink, and makes it wait till then.
func (x *tester) no(now, jitter, wait int) {
	x.Helper()
	if a, is := x.d.Answer(false, now, jitter); a != x.queue[0] || !is {
		x.Fatalf("Answer(no, %d, %d) = %v, %v, want %v, true", now, jitter, a, is, x.queue[0])
	}
	x.wait = wait
	x.stands()
}

// unasked answers where no alert is with the sink.
func (x *tester) unasked() {
	x.Helper()
	for _, yes := range []bool{true, false} {
		for _, now := range []int{0, 9, -1, 1 << 61, math.MaxInt} {
			if a, is := x.d.Answer(yes, now, 1); a != (api.Alert{}) || is {
				x.Fatalf("Answer(%v, %d, 1) = %v, %v, want nothing", yes, now, a, is)
			}
			x.stands()
		}
	}
}

// P20.2 to P20.5: the chapter's first example.
func TestFirstExample(t *testing.T) {
	const a, b, c = 1, 2, 3
	x := fresh(t, 2, 3, 10, 4)
	x.rests(0)
	x.push(a, b)
	x.full(c)
	x.sends(0, 1)
	x.rests(0)
	x.no(5, 2, 10)
	x.rests(9)
	x.sends(10, 2)
	x.no(10, 99, 20)
	x.sends(20, 3)
	x.no(20, -1, 30)
	x.sends(30, 4)
	x.yes(30, 0)
	x.unasked()
	// The second one goes on from here.
	x.push(c)
	x.sends(-5, 1)
	x.no(-5, 0, 3)
	x.sends(math.MaxInt, 2)
	x.no(math.MaxInt, 0, 1<<61+6)
}

// P20.1, P20.3, P20.4: the chapter's third example.
func TestThirdExample(t *testing.T) {
	for _, c := range [][4]int{{0, 3, 10, 4}, {65, 3, 10, 4}, {1, -1, 0, 0}, {1, 0, 1<<40 + 1, 0}, {1, 0, 0, -1}} {
		refused(t, c[0], c[1], c[2], c[3])
	}
	x := fresh(t, 1, 0, 0, 0)
	x.push(1)
	x.sends(7, 1)
	x.no(7, 5, 7)
	x.sends(7, 2)
}

// refused asks for a deliverer that may not be.
func refused(t *testing.T, queue, base, most, jitter int) {
	t.Helper()
	if d, e := deliver.New(queue, base, most, jitter); d != nil || e != api.ErrInval {
		t.Errorf("New(%d, %d, %d, %d): %v, %v, want nil, %v", queue, base, most, jitter, d, e, api.ErrInval)
	}
}

// P20.1: each of New's four numbers at its edges.
func TestNewEdges(t *testing.T) {
	for _, n := range []int{1, 2, 3, 63, 64} {
		fresh(t, n, 3, 10, 4)
	}
	for _, n := range []int{math.MinInt, math.MinInt32, -64, -1, 0, 65, 66, 128, 1 << 32, 1<<32 + 1, math.MaxInt} {
		refused(t, n, 3, 10, 4)
	}
	for _, n := range []int{0, 1, 3, 10, 1 << 32, 1<<40 - 1, 1 << 40} {
		fresh(t, 2, n, 10, 4)
		fresh(t, 2, 3, n, 4)
		fresh(t, 2, 3, 10, n)
	}
	for _, n := range []int{math.MinInt, math.MinInt32, -1 << 40, -2, -1, 1<<40 + 1, 1 << 41, 1 << 61, 1 << 62, math.MaxInt} {
		refused(t, 2, n, 10, 4)
		refused(t, 2, 3, n, 4)
		refused(t, 2, 3, 10, n)
	}
}

// P20.1: New's four numbers at all edges together: one that may not be is enough.
func TestNewAtAllEdges(t *testing.T) {
	places := []int{math.MinInt, -1, 0, 1, 2, 63, 64, 65, math.MaxInt}
	ticks := []int{math.MinInt, -1, 0, 1, 1<<40 - 1, 1 << 40, 1<<40 + 1, math.MaxInt}
	mayBe := func(n int) bool { return n >= 0 && n <= greatest }
	for _, queue := range places {
		for _, base := range ticks {
			for _, most := range ticks {
				for _, jitter := range ticks {
					if queue >= 1 && queue <= 64 && mayBe(base) && mayBe(most) && mayBe(jitter) {
						fresh(t, queue, base, most, jitter)
					} else {
						refused(t, queue, base, most, jitter)
					}
				}
			}
		}
	}
}

// P20.1, P20.2: a deliverer of each size takes as many alerts as it has places, and none more.
func TestEachSize(t *testing.T) {
	for places := 1; places <= 64; places++ {
		x := fresh(t, places, 1, 1, 1)
		x.rests(0)
		x.unasked()
		for k := range places {
			x.push(k)
		}
		x.full(places)
		x.full(places + 1)
		for k := range places {
			x.sends(k, 1)
			x.yes(k, 0)
		}
		x.rests(places)
		x.unasked()
	}
}

// P20.2: Push while the queue isn't full, while it is, and when its first was taken.
func TestPush(t *testing.T) {
	x := fresh(t, 3, 1, 100, 0)
	x.push(1, 2, 3)
	x.full(4)
	x.full(5)
	// An alert that is with the sink has its place, and one that waits too.
	x.sends(0, 1)
	x.full(4)
	x.no(0, 0, 1)
	x.full(4)
	x.sends(1, 2)
	x.full(4)
	x.yes(1, 0)
	x.push(4)
	x.full(5)
	x.sends(1, 1)
	x.yes(1, 0)
	x.sends(1, 1)
	x.yes(1, 0)
	x.push(5, 6)
	x.full(7)
}

// P20.2: a Push, taken up or refused, changes nothing of how the first stands.
func TestPushBesideTheFirst(t *testing.T) {
	x := fresh(t, 2, 4, 100, 0)
	x.push(1)
	x.sends(0, 1)
	x.push(2)
	x.full(3)
	x.rests(0)
	x.no(10, 0, 14)
	x.full(3)
	x.rests(13)
	x.sends(14, 2)
	x.full(3)
	x.no(14, 0, 22)
	x.full(3)
	x.sends(22, 3)
	x.yes(22, 0)
	x.push(3)
	x.sends(0, 1)
	x.no(0, 0, 4)
	x = fresh(t, 2, 4, 100, 0)
	x.push(1)
	x.sends(0, 1)
	x.no(0, 0, 4)
	x.push(2)
	x.rests(3)
	x.sends(4, 2)
}

// P20.2: two alerts that are alike are two, and the zero alert is one.
func TestAlikeAlerts(t *testing.T) {
	x := fresh(t, 4, 4, 100, 0)
	x.push(1, 1, 2, 1)
	x.full(1)
	for now, k := range []int{1, 1, 2, 1} {
		if x.queue[0] != alert(k) {
			t.Fatalf("%v", x.queue[0])
		}
		x.sends(now, 1)
		x.yes(now, 0)
	}
	x.rests(9)
	d, _ := deliver.New(1, 0, 0, 0)
	if e := d.Push(api.Alert{}); e != api.OK || !d.Full() || !slices.Equal(d.Queue(), []api.Alert{{}}) {
		t.Fatalf("%v, %v, %v", e, d.Full(), d.Queue())
	}
	if a, n, is := d.Send(0); a != (api.Alert{}) || n != 1 || !is {
		t.Errorf("Send = %v, %d, %v", a, n, is)
	}
	if a, is := d.Answer(true, 0, 0); a != (api.Alert{}) || !is || len(d.Queue()) != 0 {
		t.Errorf("Answer = %v, %v", a, is)
	}
}

// P20.2: an alert is handed on as it is, whatever its numbers and its text are.
func TestAnyAlert(t *testing.T) {
	least, most := math.MinInt, math.MaxInt
	for i, a := range []api.Alert{
		{Path: least, Rules: math.MaxUint32},
		{Path: most, Text: strings.Repeat("x", 5000)},
		{Mark: api.Mark{Serial: least, Inode: most, Gen: least, Off: most}},
		{Mark: api.Mark{Loss: api.Loss{Missed: most, Gone: least, Cuts: most, Tails: least, Long: most}}},
		{Text: "\x00\xff\n\n\x80"},
	} {
		d, _ := deliver.New(1, 5, 5, 5)
		d.Push(a)
		sent, _, _ := d.Send(0)
		back, _ := d.Answer(false, 0, 0)
		again, _, _ := d.Send(5)
		stands := d.Queue()
		done, _ := d.Answer(true, 5, 0)
		for _, b := range append(stands, sent, back, again, done) {
			if b != a {
				t.Errorf("alert %d: %v", i, b)
			}
		}
	}
}

// P20.3: Send of a queue without an alert: at first, and when all were taken.
func TestSendOfNone(t *testing.T) {
	x := fresh(t, 2, 1, 100, 0)
	for range 2 {
		for _, now := range times() {
			x.rests(now)
		}
		x.push(1)
		x.sends(0, 1)
		x.yes(0, 0)
	}
}

// P20.3: while the first is with the sink nothing is sent, neither it nor the one behind it, whatever the time.
func TestSendWhileWithSink(t *testing.T) {
	x := fresh(t, 2, 1, 100, 0)
	x.push(1, 2)
	x.sends(0, 1)
	for _, now := range times() {
		x.rests(now)
	}
	x.no(0, 0, 1)
	x.sends(1, 2)
	for _, now := range times() {
		x.rests(now)
	}
	x.yes(0, 0)
	x.sends(0, 1)
}

// P20.3: Send below the wait, at it and above it.
func TestSendAboutTheWait(t *testing.T) {
	for _, above := range []int{0, 1, 2, 1000, 1 << 40, 1<<61 - 10} {
		x := fresh(t, 1, 6, 100, 0)
		x.push(1)
		x.sends(0, 1)
		x.no(4, 0, 10)
		for _, now := range []int{math.MinInt, -10, -1, 0, 1, 8, 9} {
			x.rests(now)
		}
		x.sends(10+above, 2)
	}
}

// P20.3: a time below 0 is taken as 0: enough for the wait 0, not for another one.
func TestSendBelowTime(t *testing.T) {
	for _, now := range []int{-1, -5, -1 << 61, math.MinInt32, math.MinInt, math.MinInt + 1} {
		x := fresh(t, 1, 0, 100, 1)
		x.push(1)
		x.sends(now, 1)
		x.no(now, 0, 0)
		x.sends(now, 2)
		x.no(now, 1, 1)
		x.rests(now)
		x.rests(0)
		x.sends(1, 3)
	}
}

// P20.3: a time above 2^61 is taken as 2^61: enough for a wait of 2^61, not for a later one.
func TestSendAboveTime(t *testing.T) {
	for _, now := range []int{1 << 61, 1<<61 + 1, 1<<61 + 1<<41, 1 << 62, math.MaxInt - 1, math.MaxInt} {
		x := fresh(t, 1, 0, 100, 1)
		x.push(1)
		x.sends(now, 1)
		x.no(now, 0, 1<<61)
		x.rests(1<<61 - 1)
		x.sends(now, 2)
		x.no(now, 1, 1<<61+1)
		for _, later := range times() {
			x.rests(later)
		}
		x.unasked()
	}
}

// P20.4: an answer while no alert is with the sink: no alert at all, one that was never sent, one that waits, one that was taken.
func TestAnswerUnasked(t *testing.T) {
	x := fresh(t, 2, 4, 100, 0)
	x.unasked()
	x.push(1, 2)
	x.unasked()
	x.sends(0, 1)
	x.no(0, 0, 4)
	x.unasked()
	x.rests(3)
	x.unasked()
	x.sends(4, 2)
	x.no(4, 0, 12)
	x.unasked()
	x.sends(12, 3)
	x.yes(12, 0)
	x.unasked()
	x.sends(0, 1)
	x.yes(0, 0)
	x.unasked()
}

// P20.4: a no at all edges of the time and of the jitter, that is held between 0 and New's.
func TestRefusalAtAllEdges(t *testing.T) {
	for _, most := range []int{0, 1, 4, 1 << 40} {
		for _, now := range times() {
			for _, jitter := range jitters(most) {
				x := fresh(t, 1, 3, 10, most)
				x.push(1)
				x.sends(0, 1)
				x.no(now, jitter, held(now, lastTime)+3+held(jitter, most))
			}
		}
	}
}

// P20.4: a yes takes the first whatever the time and the jitter are, and however it was refused ahead of that.
func TestTakingAtAllEdges(t *testing.T) {
	for _, now := range times() {
		for _, jitter := range jitters(4) {
			x := fresh(t, 2, 3, 10, 4)
			x.push(1, 2)
			x.sends(0, 1)
			x.yes(now, jitter)
			x.sends(0, 1)
			x.no(7, jitter, 10+held(jitter, 4))
			x.sends(100, 2)
			x.yes(now, jitter)
		}
	}
}

// P20.4: refused again and again till the delay has come to its greatest: each delay is twice the one ahead of it, and none is above most.
func TestRefusedAgain(t *testing.T) {
	x := fresh(t, 1, 3, 100, 0)
	x.push(1)
	now := 50
	for k, delay := range []int{3, 6, 12, 24, 48, 96, 100, 100, 100, 100} {
		x.sends(now, k+1)
		x.no(now, 0, now+delay)
		x.rests(now + delay - 1)
		now += delay
	}
	x.sends(now, 11)
}

// P20.4: the same where the delay takes forty refusals to come to MaxDelay, with all edges of base, most and jitter that may be.
func TestRefusedToTheGreatest(t *testing.T) {
	ticks := []int{0, 1, 2, 3, 1<<39 - 1, 1 << 39, 1<<40 - 1, 1 << 40}
	for _, base := range ticks {
		for _, most := range ticks {
			for _, jitter := range ticks {
				x := fresh(t, 1, base, most, jitter)
				x.push(1)
				now, delay := 0, min(base, most)
				for k := range 50 {
					x.sends(now, k+1)
					x.no(now, math.MaxInt, now+delay+jitter)
					now += delay + jitter
					delay = min(2*delay, most)
				}
				x.sends(now, 51)
				x.yes(now, 0)
			}
		}
	}
}

// P20.4: the refusals are the first's, not the time's and not the waits': a delay doesn't hang on when the answer came.
func TestDelayHangsOnRefusals(t *testing.T) {
	x := fresh(t, 1, 1, 100, 9)
	x.push(1)
	x.sends(0, 1)
	x.no(1000, 9, 1010)
	x.sends(5000, 2)
	x.no(3, -9, 5) // a time that goes back is a time like others
	x.sends(5, 3)
	x.no(5, 2, 11)
	x.sends(11, 4)
	x.no(0, 0, 8)
}

// P20.4: the delay that New is handed as base may be above most: then it is most from the first refusal on.
func TestBaseAboveMost(t *testing.T) {
	x := fresh(t, 1, 50, 7, 2)
	x.push(1)
	for k := range 5 {
		x.sends(100*k, k+1)
		x.no(100*k, 1, 100*k+8)
	}
}

// Words, P20.4: a new first has no refusals and the wait 0, however often and till when the one before it was refused.
func TestNewFirst(t *testing.T) {
	x := fresh(t, 3, 5, 1000, 0)
	x.push(1, 2, 3)
	for range 3 {
		x.sends(0, 1)
		x.no(0, 0, 5)
		x.sends(500, 2)
		x.no(500, 0, 510)
		x.sends(510, 3)
		x.yes(510, 0)
	}
	// So has one that becomes the first only when it is pushed.
	x.push(4)
	x.sends(0, 1)
	x.no(0, 0, 5)
	x.sends(5, 2)
	x.no(5, 0, 15)
	x.sends(15, 3)
	x.yes(15, 0)
	x.rests(15)
	x.push(5)
	x.sends(-1, 1)
	x.no(0, 0, 5)
}

// P20.5, P20.6: lists that were answered stay as they were, whatever is done behind that, and nothing that is written into them is seen.
func TestQueueIsNew(t *testing.T) {
	x := fresh(t, 2, 1, 1, 1)
	x.push(1, 2)
	before, twin := x.d.Queue(), x.d.Queue()
	x.sends(0, 1)
	x.no(0, 0, 1)
	x.sends(1, 2)
	x.yes(1, 0)
	x.push(3)
	if want := []api.Alert{alert(1), alert(2)}; !slices.Equal(before, want) || !slices.Equal(twin, want) {
		t.Errorf("%v, %v", before, twin)
	}
	now := x.d.Queue()
	for _, list := range [][]api.Alert{before, now} {
		for i := range list[:cap(list)] {
			list[:cap(list)][i] = alert(99)
		}
		_ = append(list, alert(98))
	}
	x.stands()
	if !slices.Equal(twin, []api.Alert{alert(1), alert(2)}) {
		t.Errorf("%v", twin)
	}
	x.sends(1, 1)
	x.yes(1, 0)
	x.sends(1, 1)
}

// P20.6: what is written into an alert that was handed in, or that Send or Answer answered, or into its own rows (its mark, and the losses in that), isn't seen.
func TestAlertsAreNew(t *testing.T) {
	d, _ := deliver.New(2, 0, 0, 0)
	spoil := func(a *api.Alert) {
		a.Path, a.Text, a.Rules = -1, "spoilt", 0
		a.Mark.Serial, a.Mark.Inode, a.Mark.Gen, a.Mark.Off = -1, -1, -1, -1
		a.Mark.Loss.Missed, a.Mark.Loss.Gone, a.Mark.Loss.Cuts, a.Mark.Loss.Tails, a.Mark.Loss.Long = -1, -1, -1, -1, -1
	}
	given := alert(1)
	d.Push(given)
	spoil(&given)
	sent, _, _ := d.Send(0)
	kept := sent
	spoil(&sent)
	listed := d.Queue()
	spoil(&listed[0])
	back, _ := d.Answer(false, 0, 0)
	if back != alert(1) {
		t.Errorf("Answer = %v", back)
	}
	spoil(&back)
	again, n, _ := d.Send(0)
	if again != alert(1) || n != 2 {
		t.Errorf("Send = %v, %d", again, n)
	}
	spoil(&again)
	if l := d.Queue(); !slices.Equal(l, []api.Alert{alert(1)}) {
		t.Errorf("Queue = %v", l)
	}
	if done, _ := d.Answer(true, 0, 0); done != alert(1) || kept != alert(1) {
		t.Errorf("Answer = %v, kept %v", done, kept)
	}
}

// P20.6: two deliverers have nothing in common, neither their alerts nor how their firsts stand, nor New's numbers.
func TestTwoDeliverers(t *testing.T) {
	x, y := fresh(t, 2, 3, 10, 4), fresh(t, 1, 7, 50, 0)
	x.push(1)
	y.stands()
	y.rests(0)
	x.sends(0, 1)
	y.unasked()
	y.push(2)
	y.full(3)
	x.push(3)
	y.sends(0, 1)
	x.no(5, 2, 10)
	y.stands()
	y.no(0, 9, 7)
	x.stands()
	x.sends(10, 2)
	y.rests(6)
	y.sends(7, 2)
	x.yes(10, 0)
	y.no(7, 0, 21)
	x.sends(0, 1)
	y.sends(21, 3)
	y.yes(21, 0)
	x.no(0, 0, 3)
	y.unasked()
	x.stands()
}

// P20.7: nothing but the chapter's calls reaches a deliverer's queue: it has no other method and no field that others may set.
func TestFace(t *testing.T) {
	of := reflect.TypeFor[*deliver.Deliverer]()
	var names []string
	for k := range of.NumMethod() {
		names = append(names, of.Method(k).Name)
	}
	if want := []string{"Answer", "Full", "Push", "Queue", "Send", "Wait"}; !slices.Equal(names, want) {
		t.Errorf("%v, want %v", names, want)
	}
	for k := range of.Elem().NumField() {
		if f := of.Elem().Field(k); f.IsExported() {
			t.Errorf("the field %s", f.Name)
		}
	}
}

// W3: an alert's text is not kept with the text that it was cut out of, and one that was taken is not kept at all.
func TestKeepsNoText(t *testing.T) {
	const size = 1 << 26
	text := strings.Repeat("line\n", size/5)
	d, _ := deliver.New(2, 0, 0, 0)
	d.Push(api.Alert{Text: text[5:9]})
	text = ""
	if n := inUse(); n > size/2 {
		t.Errorf("%d bytes are in use while a line of a text is queued", n)
	}
	d.Push(api.Alert{Text: strings.Repeat("x", size)})
	for range 2 {
		d.Send(0)
		d.Answer(true, 0, 0)
	}
	if n := inUse(); n > size/2 {
		t.Errorf("%d bytes are in use when a long line was taken", n)
	}
	d.Push(alert(1))
	if !slices.Equal(d.Queue(), []api.Alert{alert(1)}) {
		t.Errorf("%v", d.Queue())
	}
}

// inUse is how many bytes of memory are used, once all that may go is gone.
func inUse() uint64 {
	runtime.GC()
	runtime.GC()
	var m runtime.MemStats
	runtime.ReadMemStats(&m)
	return m.HeapAlloc
}
