package scan_test

import (
	"strings"
	"sync"
	"testing"
	"time"

	"heron/api"
	"heron/scan"
)

// soon asks that something ends.
func soon(t *testing.T, what string, do func()) {
	t.Helper()
	done := make(chan int)
	go func() {
		do()
		close(done)
	}()
	select {
	case <-done:
	case <-time.After(60 * time.Second):
		t.Fatalf("%s doesn't end soon", what)
	}
}

// P13.5: the greatest that may be handed in.
func TestGreat(t *testing.T) {
	soon(t, "32 great patterns", func() {
		for _, states := range []int{0, api.MaxStates} {
			s, _, _, e := scan.New(states, great()...)
			if e != api.OK || s.Tabled() {
				t.Errorf("%d states: %v", states, e)
				return
			}
			if met := s.Line(strings.Repeat("b", 45*42)); met != 1<<0|1<<1|1<<26|1<<27 {
				t.Errorf("%d states: %#x", states, met)
			}
		}
	})
	soon(t, "a great line", func() {
		line := strings.Repeat("ab", 1<<19)
		for _, states := range []int{0, 100} {
			s, _, _, e := scan.New(states, "b$", "^b", "(ab){9}x", "a")
			if e != api.OK {
				t.Errorf("%d states: %v", states, e)
				return
			}
			if met, more := s.Line(line), s.Line(line+"x"); met != 9 || more != 12 {
				t.Errorf("%d states: %#x, %#x", states, met, more)
			}
		}
	})
}

// P13.5, W5: several goroutines ask one scanner at once, by a table and by a walk.
func TestAskedAtOnce(t *testing.T) {
	patterns := []string{"err|warn", "^$", "[0-9]{3}", "(a|b)*c$", "^ab", ""}
	list := trees(t, patterns...)
	asked := []string{"an error 404", "", "warn", "abababc", "x", "1234", "ab\x00\xff", strings.Repeat("ab", 100) + "c"}
	for _, states := range []int{0, 500} {
		s := fresh(t, states, patterns...)
		var group sync.WaitGroup
		for g := range 8 {
			group.Go(func() {
				for k := range 100 {
					line := asked[(k+g)%len(asked)]
					if met, want := s.Line(line), slowLine(list, line); met != want {
						t.Errorf("%d states, %q: %#x, want %#x", states, line, met, want)
						return
					}
					if s.Tabled() != (states > 0) {
						t.Errorf("%d states: Tabled() hangs on who asks", states)
						return
					}
				}
			})
		}
		group.Wait()
	}
}

// W5: several goroutines make scanners of one list at once.
func TestMadeAtOnce(t *testing.T) {
	patterns := []string{"a+b", "^(x|y)*$", "[0-9]", "z"}
	faulty := append(patterns[:3:3], "z(")
	list := trees(t, patterns...)
	var group sync.WaitGroup
	for g := range 8 {
		group.Go(func() {
			for k := range 20 {
				states := (g + k) % 2 * 100
				s, _, _, e := scan.New(states, patterns...)
				if e != api.OK || s.Tabled() != (states > 0) || s.Line("xaab7") != slowLine(list, "xaab7") || s.Line("xyx") != 2 {
					t.Errorf("%d states: New's answer hangs on who asks", states)
					return
				}
				if s, k, at, e := scan.New(states, faulty...); s != nil || k != 3 || at != 1 || e != api.ErrParen {
					t.Errorf("%d states: %d, %d, %v", states, k, at, e)
					return
				}
			}
		})
	}
	group.Wait()
}
