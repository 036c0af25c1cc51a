package sched_test

import (
	"math"
	"reflect"
	"testing"

	"dole/api"
	"dole/sched"
)

// Limits, by the chapter's words.
const (
	ps       = 64
	tasks    = 64
	groups   = 32
	deep     = 8
	longest  = 1000000000 // of a tick, and of a latency
	top      = 1 << 40    // of a granularity, a credit, a quota and a slice
	lightest = 2
	heaviest = 262144
	unit     = 1024
	all      = math.MaxUint64 // as a mask: all Ps
)

// Events, by their words.
func group(parent int, n int64) api.Event {
	return api.Event{Kind: api.EvGroup, A: parent, N: n}
}
func drop(g int) api.Event            { return api.Event{Kind: api.EvDrop, A: g} }
func move(g, parent int) api.Event    { return api.Event{Kind: api.EvMove, A: g, B: parent} }
func shares(g int, n int64) api.Event { return api.Event{Kind: api.EvShares, A: g, N: n} }
func limit(g int, n, m int64) api.Event {
	return api.Event{Kind: api.EvQuota, A: g, N: n, M: m}
}
func spawn(g int, nice int64, mask uint64) api.Event {
	return api.Event{Kind: api.EvSpawn, A: g, N: nice, Mask: mask}
}
func wake(n int) api.Event            { return api.Event{Kind: api.EvWake, A: n} }
func block(p int) api.Event           { return api.Event{Kind: api.EvBlock, A: p} }
func yield(p int) api.Event           { return api.Event{Kind: api.EvYield, A: p} }
func exit(p int) api.Event            { return api.Event{Kind: api.EvExit, A: p} }
func tick(p int, n int64) api.Event   { return api.Event{Kind: api.EvTick, A: p, N: n} }
func refill(g int) api.Event          { return api.Event{Kind: api.EvRefill, A: g} }
func pull(p int) api.Event            { return api.Event{Kind: api.EvPull, A: p} }
func nice(n int, to int64) api.Event  { return api.Event{Kind: api.EvNice, A: n, N: to} }
func mask(n int, to uint64) api.Event { return api.Event{Kind: api.EvMask, A: n, Mask: to} }

// plain is a config of so many Ps, in which a task goes as soon as another one is behind it.
func plain(many int) sched.Config {
	return sched.Config{Ps: many, Tick: 1000, Latency: 1000}
}

// lasting is one in which a task stays, unless it yields, leaves, or is stopped.
func lasting(many int) sched.Config {
	return sched.Config{Ps: many, Tick: longest, Gran: top, Latency: longest}
}

// made is a new scheduler behind events, none of which has an error.
func made(t *testing.T, c sched.Config, l ...api.Event) *sched.Sched {
	t.Helper()
	s, err := sched.New(c)
	if err != api.OK || s == nil {
		t.Fatalf("New(%v): %v, %d", c, s, err)
	}
	done(t, s, l...)
	return s
}

// done holds events to have no error.
func done(t *testing.T, s *sched.Sched, l ...api.Event) {
	t.Helper()
	for _, e := range l {
		if a := s.Do(e); a.Err != api.OK {
			t.Fatalf("Do(%v): %v", e, a)
		}
	}
}

// tells holds an event to have no error, and to tell a number.
func tells(t *testing.T, s *sched.Sched, e api.Event, want int64) {
	t.Helper()
	if a := s.Do(e); a != (sched.Answer{N: want}) {
		t.Fatalf("Do(%v): %v; wanted %d", e, a, want)
	}
}

// refused holds an event to an error, and to change nothing.
func refused(t *testing.T, s *sched.Sched, e api.Event, want api.Errno) {
	t.Helper()
	before := look(s)
	if a := s.Do(e); a != (sched.Answer{Err: want}) {
		t.Fatalf("Do(%v): %v; wanted the error %d", e, a, want)
	}
	if after := look(s); !reflect.DeepEqual(after, before) {
		t.Fatalf("Do(%v) was refused, and leaves %v; it was %v", e, after, before)
	}
}

// behind is what Behind tells.
type behind struct {
	off int64
	is  bool
}

// view is all that is told, of all numbers that there ever were, and of one beyond each end.
type view struct {
	running      []int
	times        [][2]uint64
	tasks        []sched.TaskStat
	behind       []behind
	groups       []sched.GroupStat
	loads        []uint64
	manyT, manyG int
	flag         bool
}

func look(s *sched.Sched) view {
	v := view{loads: s.Loads(), manyT: s.Tasks(), manyG: s.Groups(), flag: s.Flag()}
	for p := -1; p <= len(v.loads); p++ {
		v.running = append(v.running, s.Running(p))
		busy, idle := s.Times(p)
		v.times = append(v.times, [2]uint64{busy, idle})
	}
	for n := -1; n <= v.manyT; n++ {
		v.tasks = append(v.tasks, s.Task(n))
		off, is := s.Behind(n)
		v.behind = append(v.behind, behind{off, is})
	}
	for n := -1; n <= v.manyG; n++ {
		v.groups = append(v.groups, s.Group(n))
	}
	return v
}

// runs holds the Ps from 0 on to run these.
func runs(t *testing.T, s *sched.Sched, want ...int) {
	t.Helper()
	for p, n := range want {
		if got := s.Running(p); got != n {
			t.Fatalf("P %d runs %d; wanted %d", p, got, n)
		}
	}
}

// lies holds a task to lie so far behind.
func lies(t *testing.T, s *sched.Sched, n int, want int64) {
	t.Helper()
	if off, is := s.Behind(n); off != want || !is {
		t.Fatalf("Behind(%d): %d, %v; wanted %d", n, off, is, want)
	}
}

func task(t *testing.T, s *sched.Sched, n int, want sched.TaskStat) {
	t.Helper()
	if got := s.Task(n); got != want {
		t.Fatalf("Task(%d): %+v; wanted %+v", n, got, want)
	}
}

func groupIs(t *testing.T, s *sched.Sched, n int, want sched.GroupStat) {
	t.Helper()
	if got := s.Group(n); got != want {
		t.Fatalf("Group(%d): %+v; wanted %+v", n, got, want)
	}
}

// loads holds the loads of the Ps from 0 on, of which there are just so many.
func loads(t *testing.T, s *sched.Sched, want ...uint64) {
	t.Helper()
	if got := s.Loads(); !reflect.DeepEqual(got, want) {
		t.Fatalf("Loads: %v; wanted %v", got, want)
	}
}

func times(t *testing.T, s *sched.Sched, p int, busy, idle uint64) {
	t.Helper()
	if b, i := s.Times(p); b != busy || i != idle {
		t.Fatalf("Times(%d): %d, %d; wanted %d, %d", p, b, i, busy, idle)
	}
}

// noNumbers are those that none may have: neither a P, nor a task, nor a group.
func noNumbers() []int {
	return []int{math.MinInt, -1 << 32, -64, -2, -1, 64, 65, 1 << 32, 1<<32 + 1, math.MaxInt}
}

// TestExamples holds P22.2 and P22.3 to the chapter's example.
func TestExamples(t *testing.T) {
	s := made(t, plain(2))
	for n, p := range []int{0, 1, 0} {
		tells(t, s, spawn(0, 0, 3), int64(n))
		if got := s.Task(n).P; got != p {
			t.Fatalf("%d is on %d; wanted %d", n, got, p)
		}
	}
	tells(t, s, tick(0, 600), 0)
	runs(t, s, 2, 1)
}

// TestWholeExamples holds the promises to the examples of the whole: 8, 9 and 10.
func TestWholeExamples(t *testing.T) {
	s := made(t, sched.Config{Ps: 1, Tick: 10, Latency: 20}, group(0, 700), group(0, 700), spawn(1, 0, 1), spawn(2, 0, 1))
	tells(t, s, tick(0, 10), 0)
	tells(t, s, tick(0, 10), 1)
	for n := range 2 {
		if a, b := s.Task(n).Ns, s.Group(n+1).Ns; a != 10 || b != 10 {
			t.Errorf("task %d had %d, its group %d", n, a, b)
		}
	}
	s = made(t, plain(1), group(0, unit), limit(1, 30, 10), spawn(1, 0, 1))
	for range 3 {
		runs(t, s, 0)
		tells(t, s, tick(0, 10), 0)
	}
	runs(t, s, -1)
	tells(t, s, refill(1), 0)
	runs(t, s, 0)
	refused(t, s, tick(0, 1001), api.ErrTick)
}

// TestNew holds P22.1: each number of a config at and around its ends, beside others that may be.
func TestNew(t *testing.T) {
	type row struct {
		name string
		with func(c *sched.Config, n int64)
		may  []int64
		not  []int64
	}
	beyond := []int64{math.MinInt64, -1 << 32, -1, math.MaxInt64}
	for _, r := range []row{
		{"Ps", func(c *sched.Config, n int64) { c.Ps = int(n) }, []int64{1, 2, 63, ps}, []int64{0, ps + 1, 1 << 32, 1<<32 + 1}},
		{"Tick", func(c *sched.Config, n int64) { c.Tick = n }, []int64{1, 2, longest - 1, longest}, []int64{0, longest + 1, 1 << 32, 1<<32 + 1}},
		{"Gran", func(c *sched.Config, n int64) { c.Gran = n }, []int64{0, 1, top - 1, top}, []int64{top + 1}},
		{"Credit", func(c *sched.Config, n int64) { c.Credit = n }, []int64{0, 1, top - 1, top}, []int64{top + 1}},
		{"Latency", func(c *sched.Config, n int64) { c.Latency = uint64(n) }, []int64{1, 2, longest - 1, longest}, []int64{0, longest + 1, 1 << 32, 1<<32 + 1}},
	} {
		for _, c := range []sched.Config{plain(3), {Ps: ps, Tick: longest, Gran: top, Credit: top, Latency: longest}} {
			for _, n := range r.may {
				r.with(&c, n)
				isNew(t, made(t, c), c.Ps)
			}
			for _, n := range append(r.not, beyond...) {
				r.with(&c, n)
				if s, err := sched.New(c); s != nil || err != api.ErrArg {
					t.Errorf("%s of %d: %v, %d", r.name, n, s, err)
				}
			}
		}
	}
}

// isNew holds all that a scheduler tells that has the root alone.
func isNew(t *testing.T, s *sched.Sched, many int) {
	t.Helper()
	loads(t, s, make([]uint64, many)...)
	if s.Tasks() != 0 || s.Groups() != 1 || s.Flag() {
		t.Fatalf("new: %d tasks, %d groups, %v", s.Tasks(), s.Groups(), s.Flag())
	}
	groupIs(t, s, 0, sched.GroupStat{There: true, Parent: -1})
	for _, n := range append(noNumbers(), 1, 2, 31) {
		groupIs(t, s, n, sched.GroupStat{})
	}
	for _, n := range append(noNumbers(), 0, 1, 63) {
		task(t, s, n, sched.TaskStat{State: api.Dead})
		if off, is := s.Behind(n); off != 0 || is {
			t.Fatalf("Behind(%d): %d, %v", n, off, is)
		}
	}
	for _, p := range append(noNumbers(), 0, many-1, many) {
		if n := s.Running(p); n != -1 {
			t.Fatalf("Running(%d): %d", p, n)
		}
		times(t, s, p, 0, 0)
	}
}

// kinds are all that may be, and some that may not.
func kinds() []int {
	l := []int{math.MinInt, -1, 0, 16, 17, 101, 1 << 32, 1<<32 + 1, math.MaxInt}
	for k := api.EvGroup; k <= api.EvMask; k++ {
		l = append(l, k)
	}
	return l
}

// TestNil holds P22.3's last words, and P1, of each call.
func TestNil(t *testing.T) {
	var s *sched.Sched
	for _, k := range kinds() {
		for _, n := range append(noNumbers(), 0, 1) {
			e := api.Event{Kind: k, A: n, B: n, N: int64(n), M: int64(n), Mask: uint64(n)}
			if a := s.Do(e); a != (sched.Answer{Err: api.ErrArg}) {
				t.Fatalf("Do(%v): %v", e, a)
			}
		}
	}
	if l := s.Run([]api.Event{tick(0, 0), {}}); !reflect.DeepEqual(l, []sched.Answer{{Err: api.ErrArg}, {Err: api.ErrArg}}) {
		t.Errorf("Run: %v", l)
	}
	if l := s.Run(nil); len(l) != 0 {
		t.Errorf("Run of none: %v", l)
	}
	for _, n := range append(noNumbers(), 0, 1) {
		if p := s.Running(n); p != -1 {
			t.Errorf("Running(%d): %d", n, p)
		}
		task(t, s, n, sched.TaskStat{})
		groupIs(t, s, n, sched.GroupStat{})
		times(t, s, n, 0, 0)
		if off, is := s.Behind(n); off != 0 || is {
			t.Errorf("Behind(%d): %d, %v", n, off, is)
		}
	}
	if len(s.Loads()) != 0 || s.Tasks() != 0 || s.Groups() != 0 || s.Flag() {
		t.Errorf("of nobody: %v, %d, %d, %v", s.Loads(), s.Tasks(), s.Groups(), s.Flag())
	}
}

// busy is one that has some of all: groups within one another, a stopped one, and tasks that run, wait, are blocked, and are dead.
func busy(t *testing.T) *sched.Sched {
	t.Helper()
	s := made(t, sched.Config{Ps: 3, Tick: 1000, Gran: 50, Credit: 9, Latency: 600},
		group(0, unit), group(1, 500), group(0, 3000), limit(2, 20, 10),
		spawn(0, 0, 1), spawn(2, -3, 2), spawn(2, 4, 2), spawn(1, 0, 1), spawn(3, 19, 2), spawn(0, 0, 1), spawn(0, 1, 4),
		tick(0, 300), block(0), tick(1, 20), exit(2), tick(2, 7))
	states := []int{api.Runnable, api.Runnable, api.Runnable, api.Blocked, api.Running, api.Running, api.Dead}
	for n, want := range states {
		if got := s.Task(n).State; got != want {
			t.Fatalf("%d has the state %d; the tests ask for %d", n, got, want)
		}
	}
	if s.Group(2).Stopped != 2 {
		t.Fatalf("group 2 is stopped on %b; the tests ask for P 1", s.Group(2).Stopped)
	}
	return s
}

// TestKinds holds P22.2's last kind: all others are refused, whatever else they have, and before all else.
func TestKinds(t *testing.T) {
	for _, s := range []*sched.Sched{made(t, plain(1)), busy(t)} {
		for _, k := range kinds() {
			if k >= api.EvGroup && k <= api.EvMask {
				continue
			}
			for _, n := range []int{-1, 0, 1, 2, 64} {
				refused(t, s, api.Event{Kind: k, A: n, B: n, N: int64(n), M: int64(n), Mask: uint64(n)}, api.ErrArg)
			}
		}
	}
}

// TestNobodyThere holds P22.2's first words: of a group, a task or a P that isn't there that is told first, whatever else is wrong.
func TestNobodyThere(t *testing.T) {
	s := busy(t)
	for _, r := range []struct {
		kind int
		want api.Errno
		more []int // numbers of that kind that aren't there either
	}{
		{api.EvGroup, api.ErrHandle, []int{4}},
		{api.EvDrop, api.ErrHandle, []int{4}},
		{api.EvMove, api.ErrHandle, []int{4}},
		{api.EvShares, api.ErrHandle, []int{4}},
		{api.EvQuota, api.ErrHandle, []int{4}},
		{api.EvSpawn, api.ErrHandle, []int{4}},
		{api.EvRefill, api.ErrHandle, []int{4}},
		{api.EvWake, api.ErrHandle, []int{6, 7}},
		{api.EvNice, api.ErrHandle, []int{6, 7}},
		{api.EvMask, api.ErrHandle, []int{6, 7}},
		{api.EvBlock, api.ErrArg, []int{3}},
		{api.EvYield, api.ErrArg, []int{3}},
		{api.EvExit, api.ErrArg, []int{3}},
		{api.EvTick, api.ErrArg, []int{3}},
		{api.EvPull, api.ErrArg, []int{3}},
	} {
		for _, a := range append(noNumbers(), r.more...) {
			for _, n := range []int64{math.MinInt64, -1, 0, 1, 10, unit, heaviest + 1, math.MaxInt64} {
				refused(t, s, api.Event{Kind: r.kind, A: a, N: n, M: n}, r.want)
				refused(t, s, api.Event{Kind: r.kind, A: a, B: 1, N: n, M: n, Mask: all}, r.want)
			}
		}
	}
}

// TestRun holds P22.2 of Run: what Do answers of each, in turn, errors among them; and R2, R3.
func TestRun(t *testing.T) {
	l := []api.Event{group(0, unit), group(9, unit), limit(1, 30, 10), spawn(1, 0, 1), tick(0, 10), tick(0, 1001), {}, pull(0), block(0), tick(0, 5), wake(0)}
	asked := append([]api.Event{}, l...)
	one, other := made(t, plain(1)), made(t, plain(1))
	var want []sched.Answer
	for _, e := range l {
		want = append(want, one.Do(e))
	}
	got := other.Run(l)
	if !reflect.DeepEqual(got, want) || !reflect.DeepEqual(l, asked) {
		t.Fatalf("Run: %v; wanted %v; it leaves %v", got, want, l)
	}
	if !reflect.DeepEqual(want, []sched.Answer{{N: 1}, {Err: api.ErrHandle}, {}, {}, {}, {Err: api.ErrTick}, {Err: api.ErrArg}, {Err: api.ErrNone}, {}, {N: -1}, {}}) {
		t.Errorf("answers: %v", want)
	}
	if !reflect.DeepEqual(look(one), look(other)) {
		t.Errorf("Run leaves %v; Do %v", look(other), look(one))
	}
	for _, none := range [][]api.Event{nil, {}} {
		if l := other.Run(none); len(l) != 0 {
			t.Errorf("Run of none: %v", l)
		}
	}
	if !reflect.DeepEqual(look(one), look(other)) {
		t.Errorf("Run of none leaves %v", look(other))
	}
}

// TestLoadsAreTheCallers holds R3: what Loads tells may be changed.
func TestLoadsAreTheCallers(t *testing.T) {
	s := busy(t)
	before, told := look(s), s.Loads()
	for p := range told {
		told[p] = 77
	}
	if after := look(s); !reflect.DeepEqual(after, before) {
		t.Errorf("a list that was changed leaves %v; it was %v", after, before)
	}
}

// TestApart holds R4: two of them share nothing.
func TestApart(t *testing.T) {
	a, b := busy(t), busy(t)
	before := look(a)
	done(t, b, refill(2), tick(0, 400), tick(1, 200), block(0), shares(3, 2), group(3, 9), spawn(4, 0, all))
	if after := look(a); !reflect.DeepEqual(after, before) {
		t.Errorf("the other one was asked, which leaves %v; it was %v", after, before)
	}
}

// TestTaskTells holds P22.3 of a task, in each state.
func TestTaskTells(t *testing.T) {
	s := made(t, plain(3), group(0, unit), spawn(1, -5, 6), spawn(1, 19, 1<<63|2), spawn(0, 3, all))
	task(t, s, 0, sched.TaskStat{State: api.Running, P: 1, Group: 1, Nice: -5, Weight: 3125, Mask: 6})
	task(t, s, 1, sched.TaskStat{State: api.Runnable, P: 1, Group: 1, Nice: 19, Weight: 14, Mask: 1<<63 | 2})
	task(t, s, 2, sched.TaskStat{State: api.Running, P: 0, Group: 0, Nice: 3, Weight: 524, Mask: all})
	done(t, s, tick(1, 300), tick(0, 4), block(1))
	task(t, s, 1, sched.TaskStat{State: api.Blocked, P: 1, Group: 1, Nice: 19, Weight: 14, Mask: 1<<63 | 2})
	task(t, s, 0, sched.TaskStat{State: api.Running, P: 1, Group: 1, Nice: -5, Weight: 3125, Mask: 6, Ns: 300})
	done(t, s, exit(1), exit(0))
	task(t, s, 0, sched.TaskStat{State: api.Dead, Ns: 300})
	task(t, s, 2, sched.TaskStat{State: api.Dead, Ns: 4})
	task(t, s, 3, sched.TaskStat{State: api.Dead})
	for n, want := range []bool{false, false, false, false} {
		if _, is := s.Behind(n); is != want {
			t.Errorf("Behind(%d): %v", n, is)
		}
	}
}

// TestGroupTells holds P22.3 of a group: with a limit and without one, stopped, and no more.
func TestGroupTells(t *testing.T) {
	s := made(t, plain(2), group(0, 500), group(1, lightest), limit(2, 10, 4), spawn(2, 0, 1), spawn(2, 0, 2))
	groupIs(t, s, 0, sched.GroupStat{There: true, Parent: -1})
	groupIs(t, s, 1, sched.GroupStat{There: true, Shares: 500})
	groupIs(t, s, 2, sched.GroupStat{There: true, Parent: 1, Shares: lightest, Quota: 10, Pool: 2})
	done(t, s, tick(1, 7))
	groupIs(t, s, 0, sched.GroupStat{There: true, Parent: -1, Ns: 7})
	groupIs(t, s, 1, sched.GroupStat{There: true, Shares: 500, Ns: 7})
	groupIs(t, s, 2, sched.GroupStat{There: true, Parent: 1, Shares: lightest, Ns: 7, Quota: 10, Spent: 7, Stopped: 2})
	done(t, s, limit(2, 0, 0))
	groupIs(t, s, 2, sched.GroupStat{There: true, Parent: 1, Shares: lightest, Ns: 7})
	done(t, s, tick(1, 2), exit(0), exit(1), drop(2))
	groupIs(t, s, 2, sched.GroupStat{Ns: 9})
	groupIs(t, s, 1, sched.GroupStat{There: true, Shares: 500, Ns: 9})
	groupIs(t, s, 3, sched.GroupStat{})
}

// TestTimes holds P22.3 of Times: what a P ran somebody, and nobody.
func TestTimes(t *testing.T) {
	s := made(t, plain(2), tick(1, 30), spawn(0, 0, 2), tick(1, 12), tick(1, 8), tick(0, 5), block(1), tick(1, 4), tick(1, 0))
	times(t, s, 0, 0, 5)
	times(t, s, 1, 20, 34)
	for _, p := range append(noNumbers(), 2) {
		times(t, s, p, 0, 0)
	}
}
