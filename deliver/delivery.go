package deliver

import (
	"heron/api"
	"heron/backoff"
	"heron/ring"
)

const latest = 1 << 61 // the greatest time

// delivery is the queue and how its first stands.
type delivery struct {
	*ring.Ring[api.Alert]
	first              standing
	base, most, jitter int
}

// standing is how a first stands; a new one has the zero value.
type standing struct {
	withSink bool
	refusals int
	wait     int
}

// mayGo tells whether there is a first that may be handed on at a time.
func (d *delivery) mayGo(now int) bool {
	return d.Len() > 0 && !d.first.withSink && now >= d.first.wait
}

// send hands the first on; it stays in the queue.
func (d *delivery) send() (api.Alert, int, bool) {
	d.first.withSink = true
	a, is := d.Front()
	return a, d.first.refusals + 1, is
}

// take lets the first leave the queue; what was behind it is a new first.
func (d *delivery) take() (api.Alert, bool) {
	d.first = standing{}
	return d.Pop()
}

// refuse lets the first stay, and wait.
func (d *delivery) refuse(now, jitter int) (api.Alert, bool) {
	// Due refuses none of these: New has asked it.
	wait, _ := backoff.Due(now, d.base, d.most, d.first.refusals, jitter, d.jitter)
	d.first = standing{refusals: d.first.refusals + 1, wait: wait}
	return d.Front()
}

// moment is a time that is handed in, held to those that there are.
func moment(now int) int { return min(max(now, 0), latest) }
