package ring_test

import (
	"math/rand"

	"heron/api"
	"heron/ring"
)

// What the tests hold the package against: the chapter's words in another way, slow and plain.

// slowRing keeps every thing that it ever took, and how many of them were popped.
type slowRing[T any] struct {
	places int
	taken  []T
	popped int
}

// Push is P18.2.
func (s *slowRing[T]) Push(x T) api.Errno {
	if len(s.taken) >= s.places+s.popped {
		return api.ErrRing
	}
	s.taken = append(s.taken, x)
	return api.OK
}

// Front is P18.3.
func (s *slowRing[T]) Front() (T, bool) {
	for _, x := range s.All() {
		return x, true
	}
	var none T
	return none, false
}

// Pop is P18.3.
func (s *slowRing[T]) Pop() (T, bool) {
	x, is := s.Front()
	if is {
		s.popped++
	}
	return x, is
}

// Len is P18.4.
func (s *slowRing[T]) Len() int { return len(s.All()) }

// Full is P18.4.
func (s *slowRing[T]) Full() bool { return s.Len() == s.places }

// All is P18.4.
func (s *slowRing[T]) All() []T { return s.taken[s.popped:] }

// queue is what a ring can do, and the slow one too.
type queue[T any] interface {
	Push(x T) api.Errno
	Pop() (T, bool)
	Front() (T, bool)
	Len() int
	Full() bool
	All() []T
}

var _ = []queue[int]{(*ring.Ring[int])(nil), (*slowRing[int])(nil)}

// chooser chooses by chance.
type chooser struct{ *rand.Rand }

// chance is one that always chooses alike.
func chance(seed int64) chooser { return chooser{rand.New(rand.NewSource(seed))} }

// call is a row's call by chance: the more often a Push, the fuller the ring is to be.
func (c chooser) call(pushes int) byte {
	if c.Intn(8) == 0 {
		return "fla"[c.Intn(3)]
	}
	if c.Intn(10) < pushes {
		return '+'
	}
	return '-'
}
