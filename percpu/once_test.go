package percpu_test

import (
	"testing"

	"dole/api"
	"dole/percpu"
)

// TestTimeIsThereOnce holds P21.4: all time that is ticked is Busy or Idle, once, and Ran is no more than Busy.
func TestTimeIsThereOnce(t *testing.T) {
	c := chance(521288629)
	for range 200 {
		turn := made(t, 1+c.sized()%longest)
		all, served := uint64(0), uint64(0)
		for range 200 {
			task := int(c.below(4)) - 1
			if c.below(3) == 0 {
				turn.Begin(task)
			}
			ns := c.sized() % (longest + longest/8)
			serves := turn.Task() >= 0
			if _, e := turn.Tick(ns, c.sized(), c.sized()); e != api.OK {
				ns = 0
			}
			all += ns
			if serves {
				served += ns
			}
			if turn.Busy() != served || turn.Busy()+turn.Idle() != all || turn.Ran() > turn.Busy() {
				t.Fatalf("of %d: busy %d, of %d; idle %d; ran %d", all, turn.Busy(), served, turn.Idle(), turn.Ran())
			}
		}
	}
}

// together are the slices of all that are beside each other, and how many of them are but 1 since they are that at least.
func together(latency uint64, weights []uint64) (uint64, uint64) {
	load := uint64(0)
	for _, w := range weights {
		load += w
	}
	all, held := uint64(0), uint64(0)
	for _, w := range weights {
		all += percpu.Slice(latency, w, load)
		if latency*w < load { // both are of 32 bits at most
			held++
		}
	}
	return all, held
}

// besideEachOther holds P21.4 of some weights: no more than the latency, but for those that are 1 at least; and no less than that, but for what rounding takes.
func besideEachOther(t *testing.T, latency uint64, weights []uint64) {
	t.Helper()
	all, held := together(latency, weights)
	if all-held > latency {
		t.Fatalf("%d by %v: slices of %d, of which %d are 1 at least", latency, weights, all, held)
	}
	if all+uint64(len(weights)) <= latency {
		t.Fatalf("%d by %v: slices of but %d", latency, weights, all)
	}
}

// TestSlicesBesideEachOther holds P21.4: all small weights, four at most, by all small latencies.
func TestSlicesBesideEachOther(t *testing.T) {
	const top = 6
	for latency := uint64(1); latency <= 30; latency++ {
		for a := uint64(1); a <= top; a++ {
			besideEachOther(t, latency, []uint64{a})
			for b := uint64(1); b <= top; b++ {
				besideEachOther(t, latency, []uint64{a, b})
				for c := uint64(1); c <= top; c++ {
					besideEachOther(t, latency, []uint64{a, b, c})
					for d := uint64(1); d <= top; d++ {
						besideEachOther(t, latency, []uint64{a, b, c, d})
					}
				}
			}
		}
	}
}

// TestSlicesOfMany holds P21.4: up to 64 of all weights that may be, by all latencies that may be.
func TestSlicesOfMany(t *testing.T) {
	c := chance(362436069)
	for range 20000 {
		weights := make([]uint64, 1+c.below(api.MaxTasks))
		for i := range weights {
			weights[i] = api.MinWeight + c.sized()%(api.MaxWeight-api.MinWeight+1)
		}
		besideEachOther(t, 1+c.sized()%longest, weights)
	}
}

// TestAllComeRound holds P21.4: when each one is served till its slice is over, all came round within the latency, but for the 1 at least.
func TestAllComeRound(t *testing.T) {
	for _, c := range []struct {
		latency, most uint64 // for all of them, by hand
		weights       []uint64
	}{
		{6000, 6000, []uint64{1024, 1024, 1024}},
		{6000, 5998, []uint64{1024, 1277, 1024}},
		{10, 9, []uint64{1, 1, 1}},
		{10, 10, []uint64{7}},
		{1, 3, []uint64{1, 1, 1}},
		{1, 2, []uint64{5, 3}},
		{2, 4, []uint64{9, 1, 1, 1}},
	} {
		turn := made(t, c.latency)
		load := uint64(0)
		for _, w := range c.weights {
			load += w
		}
		for task, w := range c.weights {
			turn.Begin(task)
			for due := false; !due; {
				due, _ = turn.Tick(1, w, load)
			}
		}
		if turn.Busy() != c.most || turn.Idle() != 0 {
			t.Errorf("%d by %v: busy %d, idle %d; wanted %d", c.latency, c.weights, turn.Busy(), turn.Idle(), c.most)
		}
	}
}
