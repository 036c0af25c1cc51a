package sched_test

import (
	"math"
	"math/bits"
	"reflect"
	"testing"

	"dole/api"
	"dole/sched"
)

// tally is what P22.4 speaks of, told by a scheduler's answers alone: how long each task, each group and each P was served, and each group since its last refill, or quota.
type tally struct {
	t             *testing.T
	s             *sched.Sched
	c             sched.Config
	tasks, groups map[int]int64
	since         map[int]int64
	busy, idle    []uint64
}

func newTally(t *testing.T, s *sched.Sched, c sched.Config) *tally {
	return &tally{t, s, c, map[int]int64{}, map[int]int64{}, map[int]int64{}, make([]uint64, c.Ps), make([]uint64, c.Ps)}
}

// above are a group and all above it, as the scheduler tells it.
func (y *tally) above(g int) []int {
	var out []int
	for ; g >= 0; g = y.s.Group(g).Parent {
		out = append(out, g)
	}
	return out
}

// free tells whether no group above a task is stopped on its P.
func (y *tally) free(of sched.TaskStat) bool {
	for _, g := range y.above(of.Group) {
		if y.s.Group(g).Stopped>>of.P&1 == 1 {
			return false
		}
	}
	return true
}

// sound holds P22.4's first words: who runs, and that somebody does.
func (y *tally) sound(e api.Event) {
	y.t.Helper()
	on := map[int]int{}
	for p := range y.c.Ps {
		n := y.s.Running(p)
		if n < 0 {
			continue
		}
		if q, twice := on[n]; twice {
			y.t.Fatalf("behind %v: %d runs on %d, and on %d", e, n, q, p)
		}
		on[n] = p
		if k := y.s.Task(n); k.State != api.Running || k.P != p || k.Mask>>p&1 == 0 || !y.free(k) {
			y.t.Fatalf("behind %v: %d runs on %d, and is %+v", e, n, p, k)
		}
	}
	loads := make([]uint64, y.c.Ps)
	for n := range y.s.Tasks() {
		k := y.s.Task(n)
		if k.State == api.Running || k.State == api.Runnable {
			loads[k.P] += k.Weight
		}
		if _, runs := on[n]; runs != (k.State == api.Running) {
			y.t.Fatalf("behind %v: %d doesn't run, and is %+v", e, n, k)
		}
		if k.State == api.Runnable && (k.Mask>>k.P&1 == 0 || y.s.Running(k.P) < 0 && y.free(k)) {
			y.t.Fatalf("behind %v: P %d runs nobody, and %d is %+v", e, k.P, n, k)
		}
	}
	if got := y.s.Loads(); !reflect.DeepEqual(got, loads) {
		y.t.Fatalf("behind %v: loads %v; wanted %v", e, got, loads)
	}
}

// credits holds P22.4's next words: each tick's time, once, to whom it belongs.
func (y *tally) credits(e api.Event) {
	y.t.Helper()
	for n := range y.s.Tasks() {
		if got := y.s.Task(n).Ns; got != y.tasks[n] {
			y.t.Fatalf("behind %v: task %d had %d; wanted %d", e, n, got, y.tasks[n])
		}
	}
	for g := range y.s.Groups() {
		if got := y.s.Group(g).Ns; got != y.groups[g] {
			y.t.Fatalf("behind %v: group %d had %d; wanted %d", e, g, got, y.groups[g])
		}
	}
	for p := range y.c.Ps {
		times(y.t, y.s, p, y.busy[p], y.idle[p])
	}
}

// bound holds P22.4 of what a group is served between two refills, and P2 of it: quota, pool and what is spent.
func (y *tally) bound(e api.Event) {
	y.t.Helper()
	for g := range y.s.Groups() {
		k := y.s.Group(g)
		if k.Quota == 0 {
			continue
		}
		if y.since[g] > k.Quota+int64(y.c.Ps)*y.c.Tick || k.Spent != y.since[g] || k.Pool < 0 || k.Pool > k.Quota {
			y.t.Fatalf("behind %v: group %d had %d since its refill, of %+v", e, g, y.since[g], k)
		}
	}
}

// do does an event, and holds all of P22.4; true: it was done.
func (y *tally) do(e api.Event) bool {
	y.t.Helper()
	var way []int
	if runs := y.s.Running(e.A); e.Kind == api.EvTick && runs >= 0 {
		way = y.above(y.s.Task(runs).Group)
	}
	before := y.before(e)
	a := y.s.Do(e)
	if a.Err != api.OK {
		if after := look(y.s); a.N != 0 || !reflect.DeepEqual(after, before.all) {
			y.t.Fatalf("%v was refused: %v, and leaves %v; it was %v", e, a, after, before.all)
		}
		return false
	}
	switch e.Kind {
	case api.EvTick:
		y.tick(e, a, way)
	case api.EvRefill, api.EvQuota:
		y.since[e.A] = 0
	case api.EvPull:
		y.pulled(e, a, before)
	}
	y.sound(e)
	y.credits(e)
	y.bound(e)
	return true
}

func (y *tally) tick(e api.Event, a sched.Answer, way []int) {
	y.t.Helper()
	if (a.N < 0) != (way == nil) {
		y.t.Fatalf("%v: %v; above who runs are %v", e, a, way)
	}
	if a.N < 0 {
		y.idle[e.A] += uint64(e.N)
		return
	}
	y.busy[e.A] += uint64(e.N)
	y.tasks[int(a.N)] += e.N
	for _, g := range way {
		y.groups[g] += e.N
		if y.s.Group(g).Quota > 0 {
			y.since[g] += e.N
		}
	}
}

// before is what is kept of what was, ahead of an event.
type before struct {
	all view
	of  sched.TaskStat // of the task that may be pulled, and how far it lay behind
	off []behind
	p   []int
}

func (y *tally) before(e api.Event) before {
	b := before{all: look(y.s)}
	for n := range y.s.Tasks() {
		off, is := y.s.Behind(n)
		b.off, b.p = append(b.off, behind{off, is}), append(b.p, y.s.Task(n).P)
	}
	return b
}

// pulled holds P22.4 of a pull: the gap, and how far behind it lies.
func (y *tally) pulled(e api.Event, a sched.Answer, was before) {
	y.t.Helper()
	n := int(a.N)
	from, to, loads := was.p[n], e.A, y.s.Loads()
	if gap, old := apart(loads[from], loads[to]), apart(was.all.loads[from], was.all.loads[to]); gap > old || from == to || y.s.Task(n).P != to {
		y.t.Fatalf("%v: %d from %d, the gap %d was %d", e, n, from, gap, old)
	}
	off, is := y.s.Behind(n)
	if now := (behind{off, is}); now != was.off[n] && !(is && off == 0 && y.alone(n)) {
		y.t.Fatalf("%v: %d lies %v behind; it was %v", e, n, now, was.off[n])
	}
}

func apart(a, b uint64) uint64 { return max(a, b) - min(a, b) }

// alone tells whether nobody else stands in a task's queue: neither a task of its group, nor a group in which one is that isn't stopped on the way.
func (y *tally) alone(n int) bool {
	own := y.s.Task(n)
	for other := range y.s.Tasks() {
		k := y.s.Task(other)
		if other == n || k.P != own.P || k.State != api.Running && k.State != api.Runnable {
			continue
		}
		for _, g := range y.above(k.Group) {
			if g == own.Group {
				return false
			}
			if y.s.Group(g).Stopped>>own.P&1 == 1 {
				break
			}
		}
	}
	return true
}

// TestSound holds P22.4, along ways without a pattern.
func TestSound(t *testing.T) {
	pulls := 0
	for seed, terms := range allTerms() {
		c := chance(362436069 + seed)
		for range min(3, terms.ways()) {
			y := newTally(t, made(t, terms.c), terms.c)
			r := &script{&c, terms, newModel(terms.c)}
			for range terms.tasks {
				e := spawn(0, 0, all)
				r.m.do(e)
				y.do(e)
			}
			for range 300 {
				e := r.next()
				r.m.do(e)
				if y.do(e) && e.Kind == api.EvPull {
					pulls++
				}
			}
		}
	}
	if pulls < 50 {
		t.Errorf("but %d pulls", pulls)
	}
}

// wrongs are events that no scheduler of fewer than 64 Ps does, whatever it has.
func wrongs() []api.Event {
	return []api.Event{
		{}, {Kind: 16, Mask: all}, {Kind: -1}, group(-1, unit), group(0, 1), group(0, heaviest+1), drop(-1), drop(0), move(0, 0), move(-1, 0), move(0, -1), shares(0, unit), limit(0, 5, 5), limit(-1, 5, 5),
		spawn(-1, 0, all), spawn(0, 20, all), spawn(0, -21, all), spawn(0, 0, 0), spawn(0, 0, 1<<63), wake(-1), block(-1), block(64), yield(64), exit(64), exit(math.MinInt), tick(64, 0), tick(0, -1), tick(0, longest+1),
		refill(0), refill(-1), pull(-1), pull(64), nice(-1, 0), nice(0, 20), nice(0, 1<<40), mask(-1, all), mask(0, 0), mask(0, 1<<63),
	}
}

// TestRefusedKeepsNothing holds P22.4, and R1: of two that do the same, one is asked for what is refused, too; that shows neither at once nor ever after.
func TestRefusedKeepsNothing(t *testing.T) {
	for seed, terms := range allTerms() {
		if terms.c.Ps == ps {
			continue
		}
		c := chance(521288629 + seed)
		a, b := made(t, terms.c), made(t, terms.c)
		r := &script{&c, terms, newModel(terms.c)}
		for n := range 1500 {
			e := r.next()
			want := r.m.do(e)
			if want.Err == api.OK {
				if got := a.Do(e); got != want {
					t.Fatalf("Do(%v): %v; wanted %v", e, got, want)
				}
			}
			if got := b.Do(e); got != want {
				t.Fatalf("Do(%v), behind others that were refused: %v; wanted %v", e, got, want)
			}
			for _, w := range wrongs() {
				if got := b.Do(w); got.Err == api.OK || got.N != 0 {
					t.Fatalf("Do(%v): %v", w, got)
				}
			}
			if n%50 == 49 && !reflect.DeepEqual(look(a), look(b)) {
				t.Fatalf("behind %v: %v; without what was refused %v", e, look(b), look(a))
			}
		}
	}
}

// TestShareOfWeights holds P3 of the whole: of those that stay on one P, each has of the time what its weight is of all; but for a slice, or a granularity, of each one.
func TestShareOfWeights(t *testing.T) {
	s := made(t, sched.Config{Ps: 1, Tick: 1000, Gran: 100, Latency: 3000}, group(0, 3000), group(0, 1000), spawn(1, 0, 1), spawn(1, -5, 1), spawn(2, 7, 1), spawn(0, 0, 1))
	const whole = 4000000
	for range whole / 500 {
		done(t, s, tick(0, 500))
	}
	// The root's 3000, 1000, and 1024; of the 3000 a task of 1024, and one of 3125.
	near := func(what string, had int64, part, of float64) {
		t.Helper()
		if want := whole * part / of; math.Abs(float64(had)-want) > 3000 {
			t.Errorf("%s had %d; wanted %.0f", what, had, want)
		}
	}
	near("group 1", s.Group(1).Ns, 3000, 5024)
	near("group 2", s.Group(2).Ns, 1000, 5024)
	near("task 3", s.Task(3).Ns, 1024, 5024)
	near("task 0", s.Task(0).Ns, 3000.0*1024/4149, 5024)
	near("task 1", s.Task(1).Ns, 3000.0*3125/4149, 5024)
	near("task 2", s.Task(2).Ns, 1000, 5024)
}

// TestShareOfQuotas holds P5 of the whole: in each of many periods a group on all Ps has no more than its quota, and a tick for each P, and over all of them no more than all its quotas, and that.
func TestShareOfQuotas(t *testing.T) {
	const many, quota, most = 8, 1000, 70
	s := made(t, sched.Config{Ps: many, Tick: most, Latency: 500}, group(0, unit), limit(1, quota, 90))
	for range 2 * many {
		done(t, s, spawn(1, 0, all))
	}
	c := chance(123456789)
	for period := int64(1); period <= 200; period++ {
		before := s.Group(1).Ns
		for range 300 {
			done(t, s, tick(c.below(many), int64(c.below(most+1))))
		}
		now := s.Group(1)
		if got := now.Ns - before; got > quota+many*most || now.Ns > period*quota+many*most || now.Ns < period*quota {
			t.Fatalf("period %d: %d, in all %d", period, got, now.Ns)
		}
		if bits.OnesCount64(now.Stopped) != many {
			t.Fatalf("period %d: stopped on %b", period, now.Stopped)
		}
		done(t, s, refill(1))
	}
}
