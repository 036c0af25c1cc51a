package percpu_test

import (
	"math"
	"testing"

	"dole/api"
	"dole/percpu"
)

const (
	longest = 1000000000 // nanoseconds of a tick, and of a latency, by the chapter's words
	most    = 1 << 40    // of a granularity
	great   = uint64(math.MaxUint64)
)

// made is a new clock of a latency.
func made(t *testing.T, latency uint64) *percpu.Turn {
	t.Helper()
	c, e := percpu.New(latency)
	if e != api.OK || c == nil {
		t.Fatalf("New(%d): %v, %d", latency, c, e)
	}
	return c
}

// holds holds all that a clock tells.
func holds(t *testing.T, c *percpu.Turn, task int, ran, busy, idle uint64) {
	t.Helper()
	if c.Task() != task || c.Ran() != ran || c.Busy() != busy || c.Idle() != idle {
		t.Fatalf("task %d, ran %d, busy %d, idle %d; wanted %d, %d, %d, %d", c.Task(), c.Ran(), c.Busy(), c.Idle(), task, ran, busy, idle)
	}
}

func tick(t *testing.T, c *percpu.Turn, ns, w, load uint64, want bool) {
	t.Helper()
	if due, e := c.Tick(ns, w, load); due != want || e != api.OK {
		t.Fatalf("Tick(%d, %d, %d): %v, %d; wanted %v", ns, w, load, due, e, want)
	}
}

func tickRefused(t *testing.T, c *percpu.Turn, ns, w, load uint64, want api.Errno) {
	t.Helper()
	if due, e := c.Tick(ns, w, load); due || e != want {
		t.Fatalf("Tick(%d, %d, %d): %v, %d; wanted %d", ns, w, load, due, e, want)
	}
}

// TestSlice holds P21.1: by hand, with a load below, of, and just above the weight, quotients just below and above 1, and the greatest numbers.
func TestSlice(t *testing.T) {
	for _, c := range []struct{ latency, w, load, want uint64 }{
		{6000, 1024, 3072, 2000},
		{6000, 1024, 1024, 6000},
		{6000, 1024, 1023, 6000},
		{6000, 1024, 1025, 5994},
		{6000, 1024, 0, 6000},
		{6000, 0, 0, 6000},
		{6000, 0, 1, 1},
		{6000, 0, great, 1},
		{6000, 1, 0, 6000},
		{6000, 1, 6000, 1},
		{6000, 1, 5999, 1},
		{6000, 1, 6001, 1},
		{6000, 1, 3001, 1},
		{6000, 1, 3000, 2},
		{6000, 1, great, 1},
		{6000, 15, 88761, 1},
		{6000, 88761, 88776, 5998},
		{1, 1024, 1024, 1},
		{1, 1023, 1024, 1},
		{1, 1, 2, 1},
		{0, 1024, 1024, 0}, // the 1 at least is of the quotient alone, by the promise's words
		{0, 1024, 0, 0},
		{0, 1, 2, 1},
		{0, 0, 0, 0},
		{0, 0, 1, 1},
		{longest, 2, 262146, 7629},
		{longest, 262144, 262146, 999992370},
		{great, great, great, great},
		{great, great - 1, great, great - 1},
		{great, 1, great, 1},
		{great, 1, 2, 1<<63 - 1},
		{great, 0, great, 1},
		{great, 1, 0, great},
		{great, great, 0, great},
		{great - 1, great - 1, great, great - 2},
		{1 << 63, 1 << 63, 1<<63 + 1, 1<<63 - 1},
		{1 << 33, 1 << 33, 1 << 34, 1 << 32},
		{1, 1 << 63, great, 1},
	} {
		if n := percpu.Slice(c.latency, c.w, c.load); n != c.want {
			t.Errorf("Slice(%d, %d, %d): %d; wanted %d", c.latency, c.w, c.load, n, c.want)
		}
	}
}

// TestBetter holds P21.1: as far ahead as gran, and one more; gran at and beyond its ends; sums beyond int64.
func TestBetter(t *testing.T) {
	for _, c := range []struct {
		cur, other, gran int64
		want             bool
	}{
		{0, 0, 0, false},
		{1, 0, 0, true},
		{0, 1, 0, false},
		{-1, 0, 0, false},
		{0, -1, 0, true},
		{10, 5, 5, false},
		{11, 5, 5, true},
		{10, 5, 6, false},
		{10, 5, 4, true},
		{-5, -10, 5, false},
		{-4, -10, 5, true},
		{1, 0, -1, true},
		{0, 0, -1, false},
		{0, 0, math.MinInt64, false},
		{1, 0, math.MinInt64, true},
		{0, -1, math.MinInt64, true},
		{most, 0, most, false},
		{most + 1, 0, most, true},
		{most, 0, most - 1, true},
		{most, 0, most + 1, false},
		{most + 1, 0, most + 1, true},
		{most + 1, 0, math.MaxInt64, true},
		{most, 0, math.MaxInt64, false},
		{math.MaxInt64, math.MaxInt64, 0, false},
		{math.MaxInt64, math.MaxInt64 - 1, 0, true},
		{math.MaxInt64, math.MaxInt64 - 1, 1, false},
		{math.MaxInt64, math.MaxInt64 - 1, 2, false},
		{math.MaxInt64, math.MaxInt64 - 1, math.MaxInt64, false},
		{math.MaxInt64, math.MaxInt64 - most, most, false},
		{math.MaxInt64, math.MaxInt64 - most - 1, most, true},
		{math.MaxInt64, math.MinInt64, most, true},
		{math.MinInt64, math.MaxInt64, 0, false},
		{math.MinInt64, math.MaxInt64, most, false},
		{math.MinInt64, math.MinInt64, 0, false},
		{math.MinInt64 + 1, math.MinInt64, 0, true},
		{math.MinInt64 + 1, math.MinInt64, 1, false},
		{math.MinInt64 + most, math.MinInt64, most, false},
		{math.MinInt64 + most + 1, math.MinInt64, most, true},
	} {
		if is := percpu.Better(api.Ent{V: c.cur}, api.Ent{V: c.other}, c.gran); is != c.want {
			t.Errorf("Better(%d, %d, %d): %v", c.cur, c.other, c.gran, is)
		}
	}
}

// TestBetterByVAlone holds P21.1: neither Id, Weight nor Rem counts.
func TestBetterByVAlone(t *testing.T) {
	others := []api.Ent{{}, {Id: 1}, {Id: -1}, {Weight: 1024}, {Rem: 7}, {Id: 9, Weight: 262144, Rem: great}}
	for _, cur := range others {
		for _, other := range others {
			if percpu.Better(cur, other, 0) {
				t.Errorf("Better(%v, %v, 0): true", cur, other)
			}
			cur.V = 1
			if !percpu.Better(cur, other, 0) {
				t.Errorf("Better(%v, %v, 0): false", cur, other)
			}
			cur.V = 0
		}
	}
}

// TestNew holds P21.2: latencies that may be, and may not, and what a new clock tells.
func TestNew(t *testing.T) {
	for _, latency := range []uint64{1, 2, 6000, longest - 1, longest} {
		holds(t, made(t, latency), -1, 0, 0, 0)
	}
	for _, latency := range []uint64{0, longest + 1, 1 << 32, 1<<32 + 1, 1 << 63, great} {
		if c, e := percpu.New(latency); c != nil || e != api.ErrArg {
			t.Errorf("New(%d): %v, %d", latency, c, e)
		}
	}
}

// TestExample holds P21.2: the chapter's own.
func TestExample(t *testing.T) {
	c := made(t, 6000)
	c.Begin(4)
	tick(t, c, 1500, 1024, 3072, false)
	tick(t, c, 500, 1024, 3072, true)
	c.Begin(4)
	holds(t, c, 4, 2000, 2000, 0)
	c.Begin(5)
	holds(t, c, 5, 0, 2000, 0)
}

// TestBegin holds P21.2: only one that it didn't serve just then begins with no time.
func TestBegin(t *testing.T) {
	c := made(t, 6000)
	for _, step := range []struct {
		begin, task int
		ran, busy   uint64 // behind the Begin
	}{
		{0, 0, 0, 0},
		{0, 0, 10, 10},
		{1, 1, 0, 20},
		{1, 1, 10, 30},
		{0, 0, 0, 40},
		{math.MaxInt, math.MaxInt, 0, 50},
		{math.MaxInt, math.MaxInt, 10, 60},
		{math.MaxInt - 1, math.MaxInt - 1, 0, 70},
		{64, 64, 0, 80},
	} {
		c.Begin(step.begin)
		holds(t, c, step.task, step.ran, step.busy, 0)
		tick(t, c, 10, 1, 1, false)
	}
}

// TestBeginNobody holds P21.2 and P21.3: each number below 0 is nobody, and who is served anew behind it begins with no time.
func TestBeginNobody(t *testing.T) {
	for _, none := range []int{-1, -2, -3, math.MinInt + 1, math.MinInt} {
		c := made(t, 6000)
		c.Begin(none)
		holds(t, c, -1, 0, 0, 0)
		tick(t, c, 3, 1, 1, false)
		holds(t, c, -1, 0, 0, 3)
		c.Begin(7)
		tick(t, c, 6000, 1, 1, true)
		holds(t, c, 7, 6000, 6000, 3)
		c.Begin(none)
		holds(t, c, -1, 0, 6000, 3)
		c.Begin(-1)
		tick(t, c, 6000, 1, 1, false)
		holds(t, c, -1, 0, 6000, 6003)
		c.Begin(7)
		holds(t, c, 7, 0, 6000, 6003)
	}
}

// TestTick holds P21.2: the slice's end to the nanosecond, for as long as nobody else begins, and by each tick's own weight and load.
func TestTick(t *testing.T) {
	c := made(t, 6000)
	c.Begin(0)
	tick(t, c, 0, 1024, 3072, false)
	tick(t, c, 1999, 1024, 3072, false)
	tick(t, c, 0, 1024, 3072, false)
	tick(t, c, 1, 1024, 3072, true)
	tick(t, c, 0, 1024, 3072, true)
	tick(t, c, 0, 1024, 3071, true)  // 2000 of 2000 and a bit, which is rounded down
	tick(t, c, 0, 1024, 3070, false) // of 2001
	holds(t, c, 0, 2000, 2000, 0)
}

// TestTickBySlice holds P21.2: Ran is held against the slice that the tick's own weight and load make, and is that at least.
func TestTickBySlice(t *testing.T) {
	for _, step := range []struct {
		ns, w, load uint64
		want        bool
	}{
		{5999, 1024, 1024, false},
		{5999, 1024, 0, false},
		{5999, 0, 0, false},
		{6000, 1024, 1024, true},
		{6001, 1024, 1024, true},
		{6000, 1, 0, true},
		{0, 0, 1, false}, // a slice is 1 at least
		{1, 0, 1, true},
		{0, 1, great, false},
		{1, 1, great, true},
		{2999, 1, 2, false},
		{3000, 1, 2, true},
		{5998, 88761, 88776, true},
		{5997, 88761, 88776, false},
		{5999, great - 1, great, true},
		{5998, great - 1, great, false},
		{longest, 1024, 1024, true},
		{longest - 1, 1024, 1024, true},
	} {
		c := made(t, 6000)
		c.Begin(1)
		tick(t, c, step.ns, step.w, step.load, step.want)
		holds(t, c, 1, step.ns, step.ns, 0)
	}
}

// TestTickOfEnds holds P21.2: clocks of the least and of the longest latency.
func TestTickOfEnds(t *testing.T) {
	c := made(t, 1)
	c.Begin(1)
	tick(t, c, 0, 5, 5, false)
	tick(t, c, 1, 5, 5, true)
	c = made(t, longest)
	c.Begin(1)
	tick(t, c, longest-1, 5, 5, false)
	tick(t, c, 1, 5, 5, true)
	tick(t, c, longest, 5, 5, true)
	holds(t, c, 1, 2*longest, 2*longest, 0)
}

// TestTickRefused holds P21.2 and R1: too long a tick changes nothing, whether somebody is served or not.
func TestTickRefused(t *testing.T) {
	c := made(t, 1)
	for _, ns := range []uint64{longest + 1, longest + 2, 1 << 32, 1 << 63, great} {
		tickRefused(t, c, ns, 1, 1, api.ErrTick)
		holds(t, c, -1, 0, 0, 0)
	}
	c.Begin(2)
	for _, ns := range []uint64{longest + 1, longest + 2, 1 << 32, 1 << 63, great} {
		tickRefused(t, c, ns, 1, 1, api.ErrTick)
		holds(t, c, 2, 0, 0, 0)
	}
	tick(t, c, 5, 1, 1, true)
	tickRefused(t, c, longest+1, 1, 1, api.ErrTick)
	holds(t, c, 2, 5, 5, 0)
}

// TestNobodyIsNeverDue holds P21.2: the time of nobody goes on, however long, and is no slice.
func TestNobodyIsNeverDue(t *testing.T) {
	c := made(t, 1)
	tick(t, c, 0, 0, 0, false)
	tick(t, c, 1, 0, 0, false)
	tick(t, c, longest, 1, great, false)
	tick(t, c, longest, 1, 1, false)
	holds(t, c, -1, 0, 0, 2*longest+1)
}

// TestNil holds P21.3: of a clock that is nil.
func TestNil(t *testing.T) {
	var c *percpu.Turn
	holds(t, c, -1, 0, 0, 0)
	for _, task := range []int{-1, 0, 4} {
		c.Begin(task)
		holds(t, c, -1, 0, 0, 0)
		tickRefused(t, c, 0, 1, 1, api.ErrArg)
		tickRefused(t, c, longest, 1, 1, api.ErrArg)
		tickRefused(t, c, longest+1, 1, 1, api.ErrArg)
		tickRefused(t, c, great, 0, great, api.ErrArg)
	}
	holds(t, c, -1, 0, 0, 0)
}

// TestZero holds P1: a zero clock, of which nothing is promised, ends each call too.
func TestZero(t *testing.T) {
	var c percpu.Turn
	for _, task := range []int{0, -1, 1} {
		c.Tick(5, 0, 1)
		c.Tick(great, great, great)
		c.Begin(task)
		c.Task()
		c.Ran()
		c.Busy()
		c.Idle()
	}
}

// TestClocksApart holds R4: no clock knows of another one.
func TestClocksApart(t *testing.T) {
	a, b := made(t, 100), made(t, 200)
	a.Begin(1)
	tick(t, a, 100, 1, 1, true)
	holds(t, b, -1, 0, 0, 0)
	tick(t, b, 3, 1, 1, false)
	b.Begin(1)
	tick(t, b, 100, 1, 1, false)
	holds(t, a, 1, 100, 100, 0)
	holds(t, b, 1, 100, 100, 3)
}
