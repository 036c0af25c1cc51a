package percpu_test

import (
	"math"
	"math/big"
	"testing"

	"dole/api"
	"dole/percpu"
)

// past is something that a clock was told: whom to serve, or that time went on.
type past struct {
	begin bool
	task  int
	ns    uint64
}

// story is a clock by the chapter's words alone: all that it was told, of which each time is made anew, without an end, when it is asked.
type story struct {
	latency uint64
	pasts   []past
}

// task is whom the last one that begins lets it serve, of so many pasts.
func (s *story) task(many int) int {
	for many > 0 {
		many--
		if s.pasts[many].begin {
			return max(s.pasts[many].task, -1)
		}
	}
	return -1
}

// time is how long all that took of which something is so.
func (s *story) time(of func(at int) bool) *big.Int {
	all := new(big.Int)
	for i, p := range s.pasts {
		if !p.begin && of(i) {
			all.Add(all, bigU(p.ns))
		}
	}
	return all
}

func (s *story) busy() *big.Int {
	return s.time(func(at int) bool { return s.task(at) >= 0 })
}

func (s *story) idle() *big.Int {
	return s.time(func(at int) bool { return s.task(at) < 0 })
}

// ran is the time since the last one that changed whom it serves.
func (s *story) ran() *big.Int {
	from := 0
	for i := range s.pasts {
		if s.task(i) != s.task(i+1) {
			from = i
		}
	}
	if s.task(len(s.pasts)) < 0 {
		return new(big.Int)
	}
	return s.time(func(at int) bool { return at > from })
}

func (s *story) tick(ns, w, load uint64) (bool, api.Errno) {
	if ns > longest {
		return false, api.ErrTick
	}
	s.pasts = append(s.pasts, past{ns: ns})
	if s.task(len(s.pasts)) < 0 {
		return false, api.OK
	}
	return s.ran().Cmp(sliced(s.latency, w, load)) >= 0, api.OK
}

func bigU(n uint64) *big.Int { return new(big.Int).SetUint64(n) }

// sliced is a slice, in numbers without an end.
func sliced(latency, w, load uint64) *big.Int {
	if load <= w {
		return bigU(latency)
	}
	part := bigU(latency)
	part.Mul(part, bigU(w)).Div(part, bigU(load))
	if part.Sign() == 0 {
		return big.NewInt(1)
	}
	return part
}

// ahead tells whether one number is above two others together, in numbers without an end, but that the sum goes no further than int64.
func ahead(cur, other, gran int64) bool {
	sum := big.NewInt(min(max(gran, 0), most))
	sum.Add(sum, big.NewInt(other))
	if end := big.NewInt(math.MaxInt64); sum.Cmp(end) > 0 {
		sum = end
	}
	return big.NewInt(cur).Cmp(sum) > 0
}

// both is a clock beside its story, which are told and asked the same; met counts each answer of Tick.
type both struct {
	t   *testing.T
	c   *percpu.Turn
	s   *story
	met map[answer]int
}

type answer struct {
	due bool
	err api.Errno
}

func newBoth(t *testing.T, latency uint64, met map[answer]int) *both {
	t.Helper()
	return &both{t, made(t, latency), &story{latency: latency}, met}
}

func (b *both) whole() {
	b.t.Helper()
	holds(b.t, b.c, b.s.task(len(b.s.pasts)), b.s.ran().Uint64(), b.s.busy().Uint64(), b.s.idle().Uint64())
}

func (b *both) begin(task int) {
	b.t.Helper()
	b.c.Begin(task)
	b.s.pasts = append(b.s.pasts, past{begin: true, task: task})
	b.whole()
}

func (b *both) tick(ns, w, load uint64) {
	b.t.Helper()
	due, e := b.s.tick(ns, w, load)
	if gotDue, got := b.c.Tick(ns, w, load); gotDue != due || got != e {
		b.t.Fatalf("Tick(%d, %d, %d): %v, %d; wanted %v, %d", ns, w, load, gotDue, got, due, e)
	}
	b.met[answer{due, e}]++
	b.whole()
}

// often holds a test to have met each answer of Tick, so that it is not sound for want of any.
func often(t *testing.T, met map[answer]int) {
	t.Helper()
	for _, a := range []answer{{false, api.OK}, {true, api.OK}, {false, api.ErrTick}} {
		if met[a] < 100 {
			t.Errorf("%v: but %d times", a, met[a])
		}
	}
}

// TestAllOrders holds P21.2: all orders of five calls, of two tasks, of nobody, and of short and long ticks.
func TestAllOrders(t *testing.T) {
	const deep = 5
	met := map[answer]int{}
	calls := []func(b *both){
		func(b *both) { b.begin(-1) },
		func(b *both) { b.begin(-5) },
		func(b *both) { b.begin(0) },
		func(b *both) { b.begin(4) },
		func(b *both) { b.tick(0, 1024, 3072) },
		func(b *both) { b.tick(3, 1024, 3072) },
		func(b *both) { b.tick(7, 1024, 1024) },
		func(b *both) { b.tick(longest, 0, 1) },
		func(b *both) { b.tick(longest+1, 1024, 3072) },
	}
	orders := 1
	for range deep {
		orders *= len(calls)
	}
	for _, latency := range []uint64{1, 10} {
		for order := range orders {
			b := newBoth(t, latency, met)
			for range deep {
				calls[order%len(calls)](b)
				order /= len(calls)
			}
		}
	}
	often(t, met)
}

// chance tells numbers without a pattern, the same ones each time.
type chance uint64

func (c *chance) below(n uint64) uint64 {
	*c ^= *c << 13
	*c ^= *c >> 7
	*c ^= *c << 17
	return uint64(*c) % n
}

// sized is a number of any size, small ones as often as great ones.
func (c *chance) sized() uint64 {
	return c.below(great) >> c.below(64)
}

// TestLongWays holds P21.2: many calls, one behind the other, of all sizes of numbers.
func TestLongWays(t *testing.T) {
	met := map[answer]int{}
	c := chance(2463534242)
	for range 300 {
		b := newBoth(t, 1+c.sized()%longest, met)
		for range 60 {
			switch c.below(8) {
			case 0:
				b.begin(int(c.below(3)) - 1)
			case 1:
				b.tick(c.sized(), c.sized(), c.sized())
			default:
				b.tick(c.sized()%(b.s.latency+2), c.sized(), c.sized())
			}
		}
	}
	often(t, met)
}

// ends are numbers at and around the ends of what is asked, and around powers of two.
func ends() []uint64 {
	l := []uint64{0, 3, 5, 6000, 1024, 3072, longest - 1, longest, longest + 1, great}
	for _, i := range []int{0, 3, 15, 20, 31, 32, 33, 40, 41, 53, 61, 62, 63} {
		p := uint64(1) << i
		l = append(l, p-1, p, p+1)
	}
	return l
}

// TestSliceInNumbers holds P21.1: all of some fifty numbers with each other, and some without a pattern, in numbers without an end.
func TestSliceInNumbers(t *testing.T) {
	held := func(latency, w, load uint64) {
		if got, want := percpu.Slice(latency, w, load), sliced(latency, w, load); bigU(got).Cmp(want) != 0 {
			t.Fatalf("Slice(%d, %d, %d): %d; wanted %d", latency, w, load, got, want)
		}
	}
	for _, latency := range ends() {
		for _, w := range ends() {
			for _, load := range ends() {
				held(latency, w, load)
			}
		}
	}
	c := chance(88172645463325252)
	for range 200000 {
		held(c.sized(), c.sized(), c.sized())
	}
}

// TestBetterInNumbers holds P21.1: both Vs and gran at all ends, and some without a pattern, in numbers without an end.
func TestBetterInNumbers(t *testing.T) {
	met := map[bool]int{}
	held := func(cur, other, gran int64) {
		want := ahead(cur, other, gran)
		met[want]++
		if is := percpu.Better(api.Ent{V: cur}, api.Ent{V: other}, gran); is != want {
			t.Fatalf("Better(%d, %d, %d): %v", cur, other, gran, is)
		}
	}
	for _, cur := range ends() {
		for _, other := range ends() {
			for _, gran := range ends() {
				held(int64(cur), int64(other), int64(gran))
				held(-int64(cur), int64(other), int64(gran))
				held(int64(cur), -int64(other), int64(gran))
				held(-int64(cur), -int64(other), int64(gran))
			}
		}
	}
	c := chance(88172645463325252)
	for range 200000 {
		other, gran := int64(c.sized()), int64(c.sized())
		held(other+gran, other, gran)
		held(other+gran+1, other, gran)
		held(int64(c.sized()), other, -gran)
		held(other+1, other, -gran)
	}
	if met[true] < 100000 || met[false] < 100000 {
		t.Errorf("met: %v", met)
	}
}
