package deliver_test

import (
	"slices"
	"strconv"
	"sync"
	"testing"
	"time"

	"heron/api"
	"heron/deliver"
)

// sink is what a deliverer can do, and the slow one too.
type sink interface {
	Push(a api.Alert) api.Errno
	Send(now int) (api.Alert, int, bool)
	Answer(yes bool, now, jitter int) (api.Alert, bool)
	Queue() []api.Alert
	Full() bool
	Wait() int
}

var _ = []sink{(*deliver.Deliverer)(nil), (*slowDeliverer)(nil)}

// call is one of a row's: + is Push, > is Send, y and n are Answer, anything else asks alone.
type call struct {
	kind         byte
	time, jitter int
}

// answer is what one call answers, and how the deliverer stands behind it.
type answer struct {
	e    api.Errno
	a    api.Alert
	n    int
	is   bool
	full bool
	wait int
}

// ask makes a call; its alert, if it pushes one, is the k-th.
func ask(d sink, c call, k int) (got answer) {
	switch c.kind {
	case '+':
		got.e = d.Push(alert(k))
	case '>':
		got.a, got.n, got.is = d.Send(c.time)
	case 'y', 'n':
		got.a, got.is = d.Answer(c.kind == 'y', c.time, c.jitter)
	}
	got.full, got.wait = d.Full(), d.Wait()
	return got
}

// pair is a deliverer and the slow one of the same numbers.
type pair struct {
	*testing.T
	d    *deliver.Deliverer
	slow *slowDeliverer
	row  []call
}

// both is a new pair.
func both(t *testing.T, queue, base, most, jitter int) *pair {
	t.Helper()
	return &pair{T: t, d: fresh(t, queue, base, most, jitter).d, slow: &slowDeliverer{places: queue, base: base, most: most, jitter: jitter}}
}

// calls makes calls of both and asks that all answers are alike.
func (p *pair) calls(row ...call) {
	p.Helper()
	for _, c := range row {
		k := len(p.row)
		p.row = append(p.row, c)
		got, want := ask(p.d, c, k), ask(p.slow, c, k)
		if got != want {
			p.Fatalf("%v, the row %v: %v, want %v", *p.slow, p.row, got, want)
		}
		if queue, want := p.d.Queue(), p.slow.Queue(); !slices.Equal(queue, want) {
			p.Fatalf("%v, the row %v: Queue = %v, want %v", *p.slow, p.row, queue, want)
		}
	}
}

// P20.2 to P20.5: every row of six calls of some kinds, on small queues, against the chapter's words done slowly.
func TestShortRows(t *testing.T) {
	kinds := []call{{'+', 0, 0}, {'>', 0, 0}, {'>', 2, 0}, {'>', 4, 0}, {'y', 1, 1}, {'n', 0, 0}, {'n', 2, 9}}
	const calls = 6
	rows := 1
	for range calls {
		rows *= len(kinds)
	}
	for queue := 1; queue <= 2; queue++ {
		for n := range rows {
			p := both(t, queue, 1, 3, 1)
			for range calls {
				p.calls(kinds[n%len(kinds)])
				n /= len(kinds)
			}
		}
	}
}

// P20.2 to P20.5: every row of twelve Pushes, Sends that always come in time, and answers of one kind.
func TestRowsInTime(t *testing.T) {
	const calls = 12
	for queue := 1; queue <= 3; queue++ {
		for bits := range 1 << calls {
			p := both(t, queue, 2, 5, 0)
			for k := range calls {
				if bits>>k&1 == 0 {
					p.calls(call{kind: '+'})
					continue
				}
				p.calls(call{kind: '>', time: p.slow.Wait()}, call{kind: "nyy"[k%3], time: k})
			}
		}
	}
}

// byChance makes a long row: its times are about the wait, and most of its calls are such as do something.
func (p *pair) byChance(c chooser, calls int) {
	yes := []int{1, 3, 9}[c.Intn(3)]
	push := 1 + c.Intn(4)
	for range calls {
		kind := "+>yn?"[c.Intn(5)]
		switch {
		case c.Intn(10) < push:
			kind = '+'
		case c.Intn(3) > 0 && !p.slow.withSink():
			kind = '>'
		case c.Intn(3) > 0 && c.Intn(10) < yes:
			kind = 'y'
		case c.Intn(3) > 0:
			kind = 'n'
		}
		p.calls(call{kind: kind, time: c.near(p.slow.Wait()), jitter: c.among(jitters(p.slow.jitter))})
	}
}

// P20.2 to P20.5: long rows by chance, of deliverers with any numbers.
func TestRowsByChance(t *testing.T) {
	for seed := range int64(250) {
		c := chance(seed)
		queue := c.among([]int{1, 2, 3, 7, 63, 64, 1 + c.Intn(64)})
		base := c.among([]int{0, 1, 3, greatest, c.delay()})
		most := c.among([]int{0, 10, greatest, c.delay()})
		jitter := c.among([]int{0, 4, greatest, c.delay()})
		both(t, queue, base, most, jitter).byChance(c, 300)
	}
}

// watcher makes calls by chance and holds what P20.7 says against their answers.
type watcher struct {
	*testing.T
	d                    *deliver.Deliverer
	queue, most, jitter  int
	pushed, taken, tries int
	sent                 bool
}

// push tries to push one.
func (w *watcher) push() {
	if e := w.d.Push(alert(w.pushed)); (e == api.OK) != (w.pushed < w.queue+w.taken) {
		w.Fatalf("%d places, %d pushed, %d taken: %v", w.queue, w.pushed, w.taken, e)
	} else if e == api.OK {
		w.pushed++
	}
}

// send tries to send.
func (w *watcher) send(now int) {
	a, n, is := w.d.Send(now)
	if !is {
		return
	}
	w.tries++
	if w.sent || w.taken == w.pushed || a != alert(w.taken) || n != w.tries {
		w.Fatalf("%v, %d was sent behind %d takings, with the sink: %v", a, n, w.taken, w.sent)
	}
	w.sent = true
}

// answer answers.
func (w *watcher) answer(yes bool, now, jitter int) {
	a, is := w.d.Answer(yes, now, jitter)
	if is != w.sent || is && a != alert(w.taken) {
		w.Fatalf("%v, %v was answered behind %d takings", a, is, w.taken)
	}
	if !is {
		return
	}
	w.sent = false
	if yes {
		w.taken, w.tries = w.taken+1, 0
		return
	}
	now = held(now, lastTime)
	if wait := w.d.Wait(); wait < now || wait > now+w.most+w.jitter {
		w.Fatalf("a refusal at %d: the wait %d", now, wait)
	}
}

// P20.7: the order of takings, each once; the first alone is sent; an answer between two that are sent; attempts; the wait's bounds; how many pushes are taken up.
func TestFollows(t *testing.T) {
	for seed := range int64(200) {
		c := chance(1000 + seed)
		queue, most, jitter := 1+c.Intn(64), c.delay(), c.delay()
		d := fresh(t, queue, c.delay(), most, jitter).d
		w := watcher{T: t, d: d, queue: queue, most: most, jitter: jitter}
		for range 1000 {
			switch c.Intn(5) {
			case 0, 1:
				w.push()
			case 2:
				w.send(c.near(d.Wait()))
			case 3:
				w.answer(true, c.near(d.Wait()), c.among(jitters(jitter)))
			case 4:
				w.answer(false, c.near(d.Wait()), c.among(jitters(jitter)))
			}
		}
	}
}

// P20.7: where the sink takes all, each Send behind the wait is followed by its taking, and all come through.
func TestSinkThatTakesAll(t *testing.T) {
	for seed := range int64(100) {
		c := chance(2000 + seed)
		x := fresh(t, 1+c.Intn(64), c.delay(), c.delay(), c.delay())
		// It has refused for some time.
		x.push(0)
		now, refusals := 0, c.Intn(60)
		for k := range refusals {
			x.sends(now, k+1)
			x.d.Answer(false, now, c.delay())
			now, x.wait = x.d.Wait(), x.d.Wait()
		}
		attempt := refusals + 1
		for k := 1; k < 200; k++ {
			if len(x.queue) < x.places && c.Intn(3) > 0 {
				x.push(k)
			}
			if len(x.queue) == 0 {
				x.rests(now)
				continue
			}
			x.sends(now, attempt)
			x.yes(now, c.delay())
			now, attempt = now+c.Intn(3), 1
		}
	}
}

// P20.6, W5: deliverers in several goroutines at once, each its own, tell what they tell alone.
func TestDeliverersAtOnce(t *testing.T) {
	var all sync.WaitGroup
	for i := range 8 {
		p := both(t, 1+5*i, 1+i, 100, i)
		all.Go(func() {
			for k := range 300 {
				for _, c := range []call{{'+', 0, 0}, {'>', 10 * k, 0}, {"ynn"[k%3], 10 * k, k}} {
					if got, want := ask(p.d, c, k), ask(p.slow, c, k); got != want {
						t.Errorf("deliverer %d, call %d: %v, want %v", i, k, got, want)
					}
				}
			}
		})
	}
	all.Wait()
}

// W5: one deliverer asked by several goroutines at once, while nobody changes it.
func TestAskedAtOnce(t *testing.T) {
	x := fresh(t, 3, 4, 9, 0)
	x.push(1, 2, 3)
	x.sends(0, 1)
	x.no(1, 0, 5)
	var all sync.WaitGroup
	for range 8 {
		all.Go(func() {
			for range 200 {
				if q := x.d.Queue(); !x.d.Full() || x.d.Wait() != 5 || !slices.Equal(q, x.queue) {
					t.Errorf("%v, %v, %d", q, x.d.Full(), x.d.Wait())
				}
			}
		})
	}
	all.Wait()
}

// W5: one deliverer handed from goroutine to goroutine goes on as if one had made all the calls.
func TestHandedOnAtOnce(t *testing.T) {
	d, _ := deliver.New(1, 1, 1000, 0)
	d.Push(alert(1))
	next := make(chan *deliver.Deliverer, 1)
	next <- d
	var all sync.WaitGroup
	for range 8 {
		all.Go(func() {
			d := <-next
			now := d.Wait()
			if a, _, is := d.Send(now); a != alert(1) || !is {
				t.Errorf("Send(%d) = %v, %v", now, a, is)
			}
			d.Answer(false, now, 0)
			next <- d
		})
	}
	all.Wait()
	if _, n, _ := d.Send(255); n != 9 || d.Wait() != 255 {
		t.Errorf("attempt %d, the wait %d", n, d.Wait())
	}
}

// W1: a deliverer that goes on for long ends each call soon, also one whose first is refused for ever.
func TestMany(t *testing.T) {
	done := make(chan string)
	go func() { done <- manyAlerts() + manyRefusals() }()
	select {
	case fault := <-done:
		if fault != "" {
			t.Fatal(fault)
		}
	case <-time.After(60 * time.Second):
		t.Fatal("it doesn't end soon")
	}
}

// manyAlerts tells what is wrong with a deliverer that many alerts go through.
func manyAlerts() string {
	d, _ := deliver.New(api.MaxQueue, 1, 1, 1)
	for k := range 1_000_000 {
		d.Push(api.Alert{Path: k})
		d.Send(k)
		if a, is := d.Answer(true, k, 0); a.Path != k || !is {
			return "Answer " + strconv.Itoa(k) + ": " + strconv.Itoa(a.Path)
		}
	}
	return ""
}

// manyRefusals tells what is wrong with a deliverer whose first is refused many times.
func manyRefusals() string {
	for _, ticks := range [][2]int{{0, 0}, {0, greatest}, {1, greatest}, {greatest, 1}, {greatest, greatest}} {
		d, _ := deliver.New(1, ticks[0], ticks[1], greatest)
		d.Push(alert(1))
		for k := range 300_000 {
			now := d.Wait()
			if _, n, is := d.Send(now); n != k+1 || !is {
				return "Send " + strconv.Itoa(k) + ": " + strconv.Itoa(n)
			}
			d.Answer(false, now, 0)
		}
	}
	return ""
}
