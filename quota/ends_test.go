package quota

import (
	"math"
	"testing"

	"dole/api"
)

// TestSpentAtEnd holds P12.2: what was spent is held to 2^63-1. By calls alone no test comes there.
func TestSpentAtEnd(t *testing.T) {
	for _, quota := range []int64{0, 10} {
		b, _ := New(1)
		b.Set(quota, quota)
		b.spent = math.MaxInt64 - 3
		for _, step := range []struct{ ns, want int64 }{{2, math.MaxInt64 - 1}, {1, math.MaxInt64}, {1, math.MaxInt64}, {api.MaxTick, math.MaxInt64}} {
			if _, e := b.Charge(0, step.ns); e != api.OK || b.Spent() != step.want {
				t.Errorf("quota %d, Charge(0, %d): %d, %d spent; wanted %d", quota, step.ns, e, b.Spent(), step.want)
			}
		}
		b.Refill()
		if b.Spent() != 0 {
			t.Errorf("refilled: %d spent", b.Spent())
		}
	}
}
