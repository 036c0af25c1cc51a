package percpu

import (
	"math"
	"testing"

	"dole/api"
)

// atEnd are steps from 3 below the end on, and where each one leads.
var atEnd = []struct{ ns, want uint64 }{
	{0, math.MaxUint64 - 3},
	{2, math.MaxUint64 - 1},
	{1, math.MaxUint64},
	{0, math.MaxUint64},
	{1, math.MaxUint64},
	{api.MaxTick, math.MaxUint64},
}

// TestTimesAtEnd holds P21.2: each time is held to 2^64-1, and no other one with it. By calls alone no test comes there.
func TestTimesAtEnd(t *testing.T) {
	for _, c := range []struct {
		task            int
		ran, busy, idle bool // is that time near the end?
	}{
		{-1, false, false, true},
		{7, false, false, true},
		{7, false, true, false},
		{7, true, true, false},
		{7, true, false, false},
		{-1, false, true, true},
	} {
		turn, _ := New(api.MaxTick)
		turn.Begin(c.task)
		from := func(near bool) span {
			if near {
				return math.MaxUint64 - 3
			}
			return 0
		}
		turn.ran, turn.busy, turn.idle = from(c.ran), from(c.busy), from(c.idle)
		passed := uint64(0)
		for _, step := range atEnd {
			passed += step.ns
			due, e := turn.Tick(step.ns, 1, 1)
			if wanted := c.task >= 0 && (c.ran || passed >= api.MaxTick); due != wanted || e != api.OK {
				t.Fatalf("%v: Tick(%d): %v, %d", c, step.ns, due, e)
			}
			want := func(near, goesOn bool) uint64 {
				switch {
				case near && goesOn:
					return step.want
				case near:
					return math.MaxUint64 - 3
				case goesOn:
					return passed
				}
				return 0
			}
			serves := c.task >= 0
			if turn.Ran() != want(c.ran, serves) || turn.Busy() != want(c.busy, serves) || turn.Idle() != want(c.idle, !serves) {
				t.Fatalf("%v, behind %d: ran %d, busy %d, idle %d", c, passed, turn.Ran(), turn.Busy(), turn.Idle())
			}
		}
	}
}
