package sched_test

import (
	"testing"

	"dole/api"
	"dole/sched"
)

// chance tells numbers without a pattern, the same ones each time.
type chance uint64

func (c *chance) below(n int) int {
	*c ^= *c << 13
	*c ^= *c >> 7
	*c ^= *c << 17
	return int(uint64(*c) % uint64(n))
}

// among is one of some.
func among[T any](c *chance, l ...T) T { return l[c.below(len(l))] }

// answer is a kind, and the error that was told of it; met counts these.
type answer struct {
	kind int
	err  api.Errno
}

// both is a scheduler beside its model, which do the same.
type both struct {
	t   *testing.T
	s   *sched.Sched
	m   *model
	met map[answer]int
}

func newBoth(t *testing.T, c sched.Config, met map[answer]int) *both {
	t.Helper()
	return &both{t, made(t, c), newModel(c), met}
}

func (b *both) do(e api.Event) {
	b.t.Helper()
	b.answers(e)
	b.whole(e)
}

func (b *both) answers(e api.Event) {
	b.t.Helper()
	want := b.m.do(e)
	if got := b.s.Do(e); got != want {
		b.t.Fatalf("Do(%v): %v; wanted %v", e, got, want)
	}
	b.met[answer{e.Kind, want.Err}]++
}

// whole holds all that is told to the model, but of those that were dead already some alone.
func (b *both) whole(e api.Event) {
	b.t.Helper()
	s, m := b.s, b.m
	if s.Tasks() != len(m.tasks) || s.Groups() != len(m.groups) || s.Flag() {
		b.t.Fatalf("behind %v: %d tasks, %d groups, flag %v; wanted %d, %d", e, s.Tasks(), s.Groups(), s.Flag(), len(m.tasks), len(m.groups))
	}
	running := m.running()
	loads(b.t, s, m.loads()...)
	for p, k := range m.clocks {
		if s.Running(p) != running[p] || k.task != running[p] {
			b.t.Fatalf("behind %v: P %d runs %d; wanted %d, and the clock %d", e, p, s.Running(p), running[p], k.task)
		}
		times(b.t, s, p, k.busy, k.idle)
	}
	for n := -1; n <= len(m.tasks); n++ {
		if m.task(n) == nil && n%16 != 15 && n != e.A {
			continue
		}
		task(b.t, s, n, m.taskStat(n, running))
		off, is := s.Behind(n)
		if got, want := (behind{off, is}), m.behind(n); got != want {
			b.t.Fatalf("behind %v: Behind(%d): %v; wanted %v", e, n, got, want)
		}
	}
	for n := -1; n <= len(m.groups); n++ {
		if m.group(n) == nil && n%16 != 15 && n != e.A {
			continue
		}
		groupIs(b.t, s, n, m.groupStat(n))
	}
}

// terms are what a way without a pattern is made by.
type terms struct {
	c             sched.Config
	groups, tasks int   // no more are made, mostly
	quota         int64 // how much a limit is, mostly
	calm          bool  // nothing is asked that is wrong, mostly
}

// script makes events of a model's tasks, groups and Ps.
type script struct {
	c     *chance
	terms terms
	m     *model
}

// aGroup is one that is there mostly.
func (r *script) aGroup() int {
	l := r.m.below(0)
	if r.wrong() {
		return r.c.below(len(r.m.groups)+2) - 1
	}
	return l[r.c.below(len(l))]
}

// aParent is the youngest one often, so that some lie deep.
func (r *script) aParent() int {
	if l := r.m.below(0); r.c.below(2) == 0 {
		return l[len(l)-1]
	}
	return r.aGroup()
}

// aTask is one mostly that isn't dead, and of that state, if there is one.
func (r *script) aTask(state int) int {
	var l []int
	for n, t := range r.m.tasks {
		if t.state == state {
			l = append(l, n)
		}
	}
	if len(l) == 0 || r.wrong() {
		return r.c.below(len(r.m.tasks)+2) - 1
	}
	return l[r.c.below(len(l))]
}

func (r *script) aP() int {
	if r.wrong() {
		return r.c.below(r.m.c.Ps+2) - 1
	}
	return r.c.below(r.m.c.Ps)
}

// wrong is seldom.
func (r *script) wrong() bool {
	often := 20
	if r.terms.calm {
		often = 400
	}
	return r.c.below(often) == 0
}

func (r *script) aNice() int64 {
	if r.wrong() {
		return among[int64](r.c, -21, 20, -1<<40, 1<<40)
	}
	return among(r.c, 0, 0, 0, int64(r.c.below(40)-20), int64(r.c.below(7)-3))
}

func (r *script) aMask() uint64 {
	one := uint64(1) << r.c.below(r.m.c.Ps)
	if r.wrong() {
		return among[uint64](r.c, 0, 1<<63, one)
	}
	return among[uint64](r.c, all, all, one, one|1<<r.c.below(r.m.c.Ps)|1<<r.c.below(64))
}

func (r *script) aWeight() int64 {
	if r.wrong() {
		return among[int64](r.c, lightest-1, heaviest+1, -5)
	}
	return among[int64](r.c, unit, unit, lightest, heaviest, int64(lightest+r.c.below(5000)))
}

func (r *script) aTime() int64 {
	most := r.m.c.Tick
	if r.wrong() {
		return among(r.c, -1, most+1)
	}
	return among(r.c, most, 0, 1, int64(r.c.below(int(most)+1)), int64(r.c.below(int(most)+1)), int64(r.c.below(int(most)/10+1)))
}

func (r *script) aLimit(g int) api.Event {
	n := int64(1 + r.c.below(int(r.terms.quota)))
	if r.wrong() {
		return limit(g, among(r.c, -1, top+1, n), among[int64](r.c, 0, top+1, -1))
	}
	return limit(g, among(r.c, n, n, n, 0), among(r.c, int64(1+r.c.below(int(n))), 1+n/3, n, 2*n))
}

// next is an event, as it may come of what there is.
func (r *script) next() api.Event {
	n := r.c.below(100)
	switch few := len(r.m.below(0)) < r.terms.groups; {
	case n < 2 || n < 8 && few:
		return group(r.aParent(), r.aWeight())
	case n < 8 && r.c.below(3) == 0:
		return drop(r.aGroup())
	case n < 12:
		return move(among(r.c, r.aGroup(), r.aGroup(), r.aGroup(), 0), r.aParent())
	case n < 15:
		return shares(r.aGroup(), r.aWeight())
	case n < 19:
		return r.aLimit(r.aGroup())
	case n < 24:
		return refill(r.aGroup())
	}
	return r.nextOfTasks(n)
}

func (r *script) nextOfTasks(n int) api.Event {
	few := r.m.has(func(t *modelTask) bool { return true }) < r.terms.tasks
	switch {
	case n < 26 || n < 34 && few:
		return spawn(r.aGroup(), r.aNice(), r.aMask())
	case n < 36:
		return exit(r.aP())
	case n < 46:
		return wake(r.aTask(api.Blocked))
	case n < 52:
		return block(r.aP())
	case n < 57:
		return yield(r.aP())
	case n < 62:
		return pull(r.aP())
	case n < 66:
		return nice(r.aTask(among(r.c, api.Runnable, api.Blocked)), r.aNice())
	case n < 71:
		return mask(r.aTask(among(r.c, api.Runnable, api.Blocked)), r.aMask())
	case n < 72 && r.wrong():
		return api.Event{Kind: among(r.c, 0, 16, -1), A: r.c.below(3)}
	}
	return tick(r.aP(), r.aTime())
}

// ways are fewer where each event is asked of many Ps.
func (x terms) ways() int {
	if x.c.Ps == ps {
		return 1
	}
	return 7
}

func allTerms() []terms {
	return []terms{
		{sched.Config{Ps: 1, Tick: 1000, Latency: 1000}, 4, 6, 3000, false},
		{sched.Config{Ps: 1, Tick: 100, Gran: 50, Credit: 200, Latency: 3000}, 8, 12, 500, false},
		{sched.Config{Ps: 2, Tick: 1000, Latency: 1}, 3, 5, 4000, false},
		{sched.Config{Ps: 2, Tick: 1000, Gran: 100, Credit: 1000, Latency: 2000}, 12, 20, 5000, false},
		{sched.Config{Ps: 3, Tick: 7, Gran: 3, Credit: 5, Latency: 20}, 5, 9, 30, false},
		{sched.Config{Ps: 3, Tick: 1000, Gran: top, Credit: top, Latency: longest}, 6, 10, 2000, false},
		{sched.Config{Ps: 4, Tick: longest, Gran: 1000000, Credit: 3000000, Latency: 6000000}, 9, 16, 3 * longest, false},
		{sched.Config{Ps: 5, Tick: 50, Gran: 10, Latency: 100}, 32, 64, 200, false},
		{sched.Config{Ps: 5, Tick: 50, Credit: 10, Latency: 100}, 3, 30, 200, true},
		{sched.Config{Ps: 64, Tick: 100, Gran: 10, Credit: 10, Latency: 100}, 6, 64, 1000, false},
	}
}

// often holds a test to have met each answer that there is, so that it is not sound for want of any.
func often(t *testing.T, met map[answer]int, least int) {
	t.Helper()
	for kind, errs := range map[int][]api.Errno{
		api.EvGroup:  {api.OK, api.ErrHandle, api.ErrWeight, api.ErrDeep, api.ErrFull},
		api.EvDrop:   {api.OK, api.ErrHandle, api.ErrArg, api.ErrBusy},
		api.EvMove:   {api.OK, api.ErrHandle, api.ErrArg, api.ErrBusy, api.ErrLoop, api.ErrDeep},
		api.EvShares: {api.OK, api.ErrHandle, api.ErrArg, api.ErrWeight},
		api.EvQuota:  {api.OK, api.ErrHandle, api.ErrArg},
		api.EvSpawn:  {api.OK, api.ErrHandle, api.ErrArg, api.ErrMask, api.ErrFull},
		api.EvWake:   {api.OK, api.ErrHandle, api.ErrState},
		api.EvBlock:  {api.OK, api.ErrArg, api.ErrState},
		api.EvYield:  {api.OK, api.ErrArg, api.ErrState},
		api.EvExit:   {api.OK, api.ErrArg, api.ErrState},
		api.EvTick:   {api.OK, api.ErrArg, api.ErrTick},
		api.EvRefill: {api.OK, api.ErrHandle, api.ErrState},
		api.EvPull:   {api.OK, api.ErrArg, api.ErrNone},
		api.EvNice:   {api.OK, api.ErrHandle, api.ErrArg},
		api.EvMask:   {api.OK, api.ErrHandle, api.ErrMask},
	} {
		for _, err := range errs {
			if n := met[answer{kind, err}]; n < least {
				t.Errorf("kind %d, error %d: but %d times", kind, err, n)
			}
		}
	}
}

// TestLongWays holds P22.2 and P22.3: many events, one behind the other, of few and of many Ps, groups and tasks.
func TestLongWays(t *testing.T) {
	met := map[answer]int{}
	stops, waits := 0, 0
	for seed, terms := range allTerms() {
		c := chance(88172645463325252 + seed)
		for range terms.ways() {
			b := newBoth(t, terms.c, met)
			r := &script{&c, terms, b.m}
			for range terms.tasks / 2 {
				b.do(group(r.aParent(), r.aWeight()))
				b.do(spawn(r.aGroup(), r.aNice(), r.aMask()))
			}
			for range 600 {
				b.do(r.next())
			}
			stops, waits = stops+b.m.stops, waits+b.m.waits
		}
	}
	often(t, met, 2)
	if stops < 500 || waits < 10 {
		t.Errorf("but %d stops, and %d that waited on", stops, waits)
	}
}

// TestFull holds P22.2 of a scheduler with as many groups and tasks as may be.
func TestFull(t *testing.T) {
	met := map[answer]int{}
	terms := terms{sched.Config{Ps: 6, Tick: 50, Gran: 10, Credit: 20, Latency: 100}, 32, 64, 200, true}
	c := chance(2463534242)
	b := newBoth(t, terms.c, met)
	r := &script{&c, terms, b.m}
	for range groups {
		b.do(group(r.aParent(), r.aWeight()))
	}
	for range tasks {
		b.do(spawn(r.aGroup(), r.aNice(), r.aMask()))
	}
	for range 2000 {
		b.do(r.next())
	}
	for _, kind := range []int{api.EvGroup, api.EvSpawn} {
		if n := met[answer{kind, api.ErrFull}]; n < 20 {
			t.Errorf("kind %d: full but %d times", kind, n)
		}
	}
}

// TestAllOrders holds P22.2 and P22.3: all orders of four events, of two Ps, a group with a limit within one without, and three tasks.
func TestAllOrders(t *testing.T) {
	const long = 4
	met := map[answer]int{}
	begin := []api.Event{group(0, 700), group(1, unit), limit(2, 20, 10), spawn(2, 0, 1), spawn(0, 0, 3), spawn(2, 3, 3), mask(0, 3)}
	l := []api.Event{
		tick(0, 6), tick(1, 11), block(0), wake(0), yield(0), exit(1), pull(1),
		refill(2), limit(2, 9, 4), mask(0, 2), nice(0, -5), spawn(1, 0, 3),
	}
	orders := 1
	for range long {
		orders *= len(l)
	}
	for order := range orders {
		b := newBoth(t, sched.Config{Ps: 2, Tick: 11, Gran: 4, Credit: 3, Latency: 20}, met)
		for _, e := range begin {
			b.answers(e)
		}
		var last api.Event
		for range long {
			last = l[order%len(l)]
			order /= len(l)
			b.answers(last)
		}
		b.whole(last)
	}
	for _, e := range l {
		if n := met[answer{e.Kind, api.OK}]; n < 100 {
			t.Errorf("kind %d: done but %d times", e.Kind, n)
		}
	}
}
