package sched_test

import (
	"math"
	"testing"

	"dole/api"
	"dole/sched"
)

// noWeights are numbers that are no weight.
func noWeights() []int64 {
	return []int64{math.MinInt64, -unit, -1, 0, lightest - 1, heaviest + 1, 1 << 32, 1<<32 + unit, math.MaxInt64}
}

// chain is a scheduler with the groups 1 to n, each one within the one before it.
func chain(t *testing.T, c sched.Config, n int) *sched.Sched {
	t.Helper()
	s := made(t, c)
	for g := range n {
		tells(t, s, group(g, unit), int64(g+1))
	}
	return s
}

// TestGroup holds P22.2 of EvGroup: weights that may be, and not, the numbers, and within which one it is.
func TestGroup(t *testing.T) {
	s := made(t, plain(2))
	for n, r := range []struct {
		parent int
		shares int64
	}{{0, lightest}, {0, lightest + 1}, {1, heaviest - 1}, {3, heaviest}, {3, unit}} {
		tells(t, s, group(r.parent, r.shares), int64(n+1))
		groupIs(t, s, n+1, sched.GroupStat{There: true, Parent: r.parent, Shares: uint64(r.shares)})
	}
	for _, w := range noWeights() {
		for g := range 6 {
			refused(t, s, group(g, w), api.ErrWeight)
		}
	}
}

// TestGroupNumbers holds the Words: no number of a group comes again, whatever its place.
func TestGroupNumbers(t *testing.T) {
	s := made(t, plain(2))
	for n := int64(1); n <= 100; n++ {
		tells(t, s, group(0, unit), n)
		tells(t, s, drop(int(n)), 0)
		groupIs(t, s, int(n), sched.GroupStat{})
		if s.Groups() != int(n)+1 {
			t.Fatalf("Groups: %d", s.Groups())
		}
	}
}

// TestGroupRoom holds P22.2 of EvGroup, of gtree.Create's errors, and which of the errors is told first.
func TestGroupRoom(t *testing.T) {
	s := chain(t, plain(2), deep)
	refused(t, s, group(deep, unit), api.ErrDeep)
	refused(t, s, group(deep, 0), api.ErrWeight)
	for n := deep + 1; n < groups; n++ {
		tells(t, s, group(deep-1, unit), int64(n))
	}
	refused(t, s, group(0, unit), api.ErrFull)
	refused(t, s, group(deep, unit), api.ErrDeep)
	refused(t, s, group(0, 0), api.ErrWeight)
	refused(t, s, group(groups, unit), api.ErrHandle)
	tells(t, s, drop(groups-1), 0)
	tells(t, s, group(0, unit), groups)
	refused(t, s, group(0, unit), api.ErrFull)
}

// TestDrop holds P22.2 of EvDrop: of the root, of one with tasks, with a group, with neither, and of one that is no more.
func TestDrop(t *testing.T) {
	s := chain(t, plain(2), 2)
	refused(t, s, drop(0), api.ErrArg)
	refused(t, s, drop(1), api.ErrBusy)
	done(t, s, spawn(2, 0, all), spawn(0, 0, all))
	refused(t, s, drop(2), api.ErrBusy)
	refused(t, s, drop(0), api.ErrBusy)
	done(t, s, block(0), block(1))
	refused(t, s, drop(2), api.ErrBusy)
	refused(t, s, drop(0), api.ErrBusy)
	done(t, s, wake(0), wake(1), exit(0))
	tells(t, s, drop(2), 0)
	refused(t, s, drop(2), api.ErrHandle)
	tells(t, s, drop(1), 0)
	refused(t, s, drop(0), api.ErrBusy)
	done(t, s, exit(1))
	refused(t, s, drop(0), api.ErrArg)
}

// TestDropLeavesNothing holds P22.2 of EvDrop: what comes into the place of one that was stopped, and had a limit, begins anew.
func TestDropLeavesNothing(t *testing.T) {
	s := made(t, lasting(2), group(0, 300), limit(1, 10, 5), spawn(1, 0, 1), spawn(1, 0, 2), tick(0, 900))
	groupIs(t, s, 1, sched.GroupStat{There: true, Shares: 300, Ns: 900, Quota: 10, Spent: 900, Stopped: 1})
	done(t, s, mask(0, 2), exit(1), exit(1))
	// What the P 1 returned the P 0 owes, and more.
	groupIs(t, s, 1, sched.GroupStat{There: true, Shares: 300, Ns: 900, Quota: 10, Spent: 900, Stopped: 1})
	done(t, s, drop(1))
	tells(t, s, group(0, unit), 2)
	groupIs(t, s, 2, sched.GroupStat{There: true, Shares: unit})
	tells(t, s, spawn(2, 0, 1), 2)
	runs(t, s, 2, -1)
	lies(t, s, 2, 0)
	done(t, s, limit(2, 10, 5))
	groupIs(t, s, 2, sched.GroupStat{There: true, Shares: unit, Quota: 10, Pool: 5})
}

// TestMove holds P22.2 of EvMove: within which one it is then, and whose time it then is.
func TestMove(t *testing.T) {
	s := made(t, plain(1), group(0, unit), group(0, unit), group(1, 77), spawn(3, 0, 1), tick(0, 5), block(0))
	tells(t, s, move(3, 2), 0)
	groupIs(t, s, 3, sched.GroupStat{There: true, Parent: 2, Shares: 77, Ns: 5})
	done(t, s, wake(0), tick(0, 3))
	for g, want := range []int64{8, 5, 3, 8} {
		if got := s.Group(g).Ns; got != want {
			t.Errorf("group %d had %d; wanted %d", g, got, want)
		}
	}
	done(t, s, block(0), move(2, 1), wake(0), tick(0, 1))
	for g, want := range []int64{9, 6, 4, 9} {
		if got := s.Group(g).Ns; got != want {
			t.Errorf("group %d had %d; wanted %d", g, got, want)
		}
	}
}

// within is a move, and the error that it should have.
type within struct {
	g, parent int
	want      api.Errno
}

// TestMoveRefused holds P22.2 of EvMove's errors, in turn.
func TestMoveRefused(t *testing.T) {
	s := chain(t, plain(1), deep)
	done(t, s, group(0, unit), group(9, unit), spawn(2, 0, 1))
	for _, r := range []within{
		{2, 11, api.ErrHandle}, {11, 2, api.ErrHandle}, {0, -1, api.ErrHandle},
		{2, 0, api.ErrBusy}, {1, 0, api.ErrBusy}, {0, 9, api.ErrBusy}, {1, 2, api.ErrBusy}, {2, 2, api.ErrBusy}, {2, 10, api.ErrBusy},
		{3, 8, api.ErrLoop}, {9, 9, api.ErrLoop}, {9, 10, api.ErrLoop},
		{9, 7, api.ErrDeep}, {9, 8, api.ErrDeep}, {10, 8, api.ErrDeep},
	} {
		refused(t, s, move(r.g, r.parent), r.want)
	}
	done(t, s, block(0))
	for _, r := range []within{
		{0, 9, api.ErrArg}, {0, 0, api.ErrArg}, {1, 2, api.ErrLoop}, {1, 1, api.ErrLoop}, {2, 10, api.ErrDeep},
	} {
		refused(t, s, move(r.g, r.parent), r.want)
	}
	tells(t, s, move(10, 7), 0)
	tells(t, s, move(10, 9), 0)
	tells(t, s, move(9, 6), 0)
	tells(t, s, move(9, 0), 0)
	tells(t, s, move(2, 9), 0)
	tells(t, s, move(2, 9), 0)
}

// TestShares holds P22.2 of EvShares.
func TestShares(t *testing.T) {
	s := made(t, plain(1), group(0, unit), group(1, unit))
	for _, w := range []int64{lightest, lightest + 1, 77, heaviest - 1, heaviest} {
		tells(t, s, shares(2, w), 0)
		groupIs(t, s, 2, sched.GroupStat{There: true, Parent: 1, Shares: uint64(w)})
		groupIs(t, s, 1, sched.GroupStat{There: true, Shares: unit})
		refused(t, s, shares(0, w), api.ErrArg)
	}
	for _, w := range noWeights() {
		refused(t, s, shares(2, w), api.ErrWeight)
		refused(t, s, shares(0, w), api.ErrArg)
	}
}

// TestQuota holds P22.2 of EvQuota: quotas and slices that may be, and not.
func TestQuota(t *testing.T) {
	s := made(t, plain(1), group(0, unit))
	type row struct{ quota, slice int64 }
	for _, r := range []row{{1, 1}, {top, top}, {top, 1}, {1, top}, {30, 10}, {0, 0}, {0, -1}, {0, top + 1}, {0, math.MinInt64}} {
		tells(t, s, limit(1, r.quota, r.slice), 0)
		groupIs(t, s, 1, sched.GroupStat{There: true, Shares: unit, Quota: r.quota, Pool: r.quota})
		refused(t, s, limit(0, r.quota, r.slice), api.ErrArg)
	}
	for _, quota := range []int64{0, 30} {
		done(t, s, limit(1, quota, 10))
		for _, r := range []row{{-1, 10}, {top + 1, 10}, {math.MinInt64, 10}, {math.MaxInt64, 10}, {1 << 62, 10}, {30, 0}, {30, -1}, {30, top + 1}, {30, math.MinInt64}, {30, math.MaxInt64}, {-1, 0}} {
			refused(t, s, limit(1, r.quota, r.slice), api.ErrArg)
			refused(t, s, limit(0, r.quota, r.slice), api.ErrArg)
		}
	}
}

// TestQuotaLetsGo holds P22.2 of EvQuota: with another quota, and with none, it is stopped nowhere; then it settles.
func TestQuotaLetsGo(t *testing.T) {
	s := made(t, lasting(3), group(0, unit), limit(1, 3, 1), spawn(1, 0, 1), spawn(1, 0, 2), spawn(1, 0, 4))
	stopped := func() {
		t.Helper()
		done(t, s, tick(2, 1), tick(0, 1), tick(1, 1))
		groupIs(t, s, 1, sched.GroupStat{There: true, Shares: unit, Ns: s.Group(1).Ns, Quota: 3, Spent: 3, Stopped: 7})
		runs(t, s, -1, -1, -1)
	}
	stopped()
	refused(t, s, limit(1, -1, 1), api.ErrArg)
	// The Ps are ensured from 0 on, and 2 is too late.
	done(t, s, limit(1, 2, 1))
	groupIs(t, s, 1, sched.GroupStat{There: true, Shares: unit, Ns: 3, Quota: 2, Stopped: 4})
	runs(t, s, 0, 1, -1)
	done(t, s, limit(1, 3, 1))
	runs(t, s, 0, 1, 2)
	stopped()
	done(t, s, limit(1, 0, 0))
	groupIs(t, s, 1, sched.GroupStat{There: true, Shares: unit, Ns: 6})
	runs(t, s, 0, 1, 2)
	done(t, s, tick(2, longest))
	runs(t, s, 0, 1, 2)
}

// TestSpawn holds P22.2 of EvSpawn: the numbers, the weights, and the P on which it is.
func TestSpawn(t *testing.T) {
	s := made(t, plain(4))
	for n, r := range []struct {
		nice int64
		mask uint64
		p    int
	}{
		{0, 6, 1}, {-1, 6, 2}, // idle ones, the lowest first
		{1, 6, 1}, {0, 6, 2}, {0, 6, 1}, // none is idle: the least load, 1024 and 1280, 1843 and 1280, 1843 and 2304
		{19, all, 0}, {-20, all, 3},
		{0, all, 0}, {0, 1 << 3, 3}, {0, 1<<3 | 1<<4 | 1<<63, 3}, {0, all, 0},
	} {
		tells(t, s, spawn(0, r.nice, r.mask), int64(n))
		if got := s.Task(n); got.P != r.p || got.Nice != int(r.nice) || got.Mask != r.mask {
			t.Fatalf("spawn %d: %+v; wanted P %d", n, got, r.p)
		}
	}
	loads(t, s, 14+1024+1024, 1024+819+1024, 1280+1024, 88817+1024+1024)
	if s.Tasks() != 11 {
		t.Errorf("Tasks: %d", s.Tasks())
	}
}

// TestSpawnRefused holds P22.2 of EvSpawn's errors, in turn.
func TestSpawnRefused(t *testing.T) {
	s := made(t, plain(3), group(0, unit), spawn(1, 0, 2))
	none := []uint64{0, 8, 1 << 63, all &^ 7}
	for _, n := range []int64{math.MinInt64, -1 << 32, -21, 20, 1 << 32, 1<<32 + 1, math.MaxInt64} {
		for _, m := range append(none, all, 1) {
			refused(t, s, spawn(1, n, m), api.ErrArg)
			refused(t, s, spawn(2, n, m), api.ErrHandle)
		}
	}
	for _, m := range none {
		refused(t, s, spawn(1, 0, m), api.ErrMask)
	}
	for n := 1; n < tasks; n++ {
		tells(t, s, spawn(1, 19, 4), int64(n))
	}
	refused(t, s, spawn(1, 0, all), api.ErrFull)
	refused(t, s, spawn(0, 0, 2), api.ErrFull)
	refused(t, s, spawn(1, 0, 8), api.ErrMask)
	refused(t, s, spawn(1, 20, 8), api.ErrArg)
	// One that is blocked isn't Dead.
	done(t, s, block(1))
	refused(t, s, spawn(1, 0, all), api.ErrFull)
	done(t, s, exit(2))
	tells(t, s, spawn(1, 0, all), tasks)
	refused(t, s, spawn(1, 0, all), api.ErrFull)
}

// TestSpawnAllPs holds P22.2 of EvSpawn where there are as many Ps as may be: each bit is a P.
func TestSpawnAllPs(t *testing.T) {
	s := made(t, plain(ps))
	for p := ps - 1; p >= 0; p-- {
		tells(t, s, spawn(0, 0, 1<<p), int64(ps-1-p))
		if n := s.Running(p); n != ps-1-p {
			t.Fatalf("Running(%d): %d", p, n)
		}
	}
}

// TestSpawnStands holds P22.2 of EvSpawn: its V is the Min of its group's queue there.
func TestSpawnStands(t *testing.T) {
	s := made(t, lasting(1), group(0, unit), spawn(0, 0, 1), tick(0, 500), spawn(0, 0, 1))
	lies(t, s, 0, 0)
	lies(t, s, 1, 0)
	done(t, s, tick(0, 100), spawn(0, 0, 1), spawn(1, 0, 1))
	for n, want := range []int64{100, 0, 0, 0} {
		lies(t, s, n, want)
	}
	// In the group's queue, which is new, it stands at 0; and the group was put at the root's Min.
	done(t, s, yield(0), tick(0, 40), yield(0))
	runs(t, s, 3)
	done(t, s, tick(0, 30), spawn(1, 0, 1), spawn(0, 0, 1), tick(0, 5))
	for n, want := range []int64{100, 40, 0, 5, 0, 0} {
		lies(t, s, n, want)
	}
}

// TestPlaces holds the Words: a task has a place in a pool, and by that it stands; a place that was freed is used again.
func TestPlaces(t *testing.T) {
	s := made(t, plain(1), spawn(0, 0, 1), spawn(0, 0, 1), spawn(0, 0, 1), exit(0))
	runs(t, s, 1)
	tells(t, s, spawn(0, 0, 1), 3)
	runs(t, s, 1)
	tells(t, s, yield(0), 3)
	// And a group stands by its place in the tree.
	s = made(t, plain(1), group(0, unit), group(0, unit), group(0, unit), spawn(2, 0, 1), spawn(3, 0, 1), drop(1), group(0, unit), spawn(4, 0, 1))
	runs(t, s, 0)
	done(t, s, tick(0, 1))
	runs(t, s, 2)
}

// TestWake holds P22.2 of EvWake: who may wake, and where.
func TestWake(t *testing.T) {
	s := made(t, plain(4), spawn(0, 0, 4), spawn(0, 0, 8), spawn(0, 0, 4))
	for n, want := range []api.Errno{api.ErrState, api.ErrState, api.ErrState, api.ErrHandle} {
		refused(t, s, wake(n), want)
	}
	done(t, s, block(2))
	refused(t, s, wake(2), api.ErrState)
	tells(t, s, wake(0), 2)
	refused(t, s, wake(0), api.ErrState)
	// Where it was last, if that is idle; else the first idle one; else where it was, if none has less; else the least one.
	done(t, s, block(2), block(2), mask(0, all), mask(2, all))
	tells(t, s, wake(0), 2)
	tells(t, s, wake(2), 0)
	done(t, s, block(0), spawn(0, 0, 1), spawn(0, 0, 2))
	tells(t, s, wake(2), 0)
	done(t, s, block(0), mask(3, all), exit(0), spawn(0, -1, 1))
	tells(t, s, wake(3), 1)
}

// TestWakeStands holds P22.2 of EvWake: no further below the Min than the credit, and no less than it had.
func TestWakeStands(t *testing.T) {
	for _, r := range []struct{ credit, want int64 }{{0, 0}, {1, -1}, {10, -10}, {199, -199}, {200, -200}, {201, -200}, {top, -200}} {
		c := lasting(1)
		c.Credit = r.credit
		s := made(t, c, spawn(0, 0, 1), spawn(0, 0, 1), tick(0, 100), block(0), tick(0, 300), wake(0))
		lies(t, s, 0, r.want)
		lies(t, s, 1, 0)
		s = made(t, c, spawn(0, 0, 1), spawn(0, 0, 1), tick(0, 350), block(0), tick(0, 300), wake(0))
		lies(t, s, 0, 50)
	}
}

// moved is one that woke on another P: 1 is the P 0's least one, then 0 is; they lie 300 and 100 ahead of the P's Min, and 2 at the Min of the P 1.
func moved(t *testing.T, credit int64) *sched.Sched {
	t.Helper()
	c := lasting(2)
	c.Credit = credit
	return made(t, c, spawn(0, 0, 1), spawn(0, 0, 1), spawn(0, 0, 2), tick(1, 700), tick(0, 100), yield(0), tick(0, 300))
}

// TestWakeMoves holds the Words of a task that is put on another P, behind EvWake: it lies as far behind the Min there as it did behind that one which it left, as that was ahead of it.
func TestWakeMoves(t *testing.T) {
	for _, credit := range []int64{0, 10, 1000} {
		s := moved(t, credit)
		lies(t, s, 0, 0)
		lies(t, s, 1, 200)
		done(t, s, block(0), mask(1, 2))
		tells(t, s, wake(1), 1)
		lies(t, s, 1, 200)
		// It leaves as the least one, so that its old queue's Min rises.
		s = moved(t, credit)
		done(t, s, yield(0), block(0), mask(0, 2))
		tells(t, s, wake(0), 1)
		lies(t, s, 0, 0)
		lies(t, s, 2, 0)
	}
}

// TestWakeMovesBack holds the Words: from one P to another one, and back again.
func TestWakeMovesBack(t *testing.T) {
	s := moved(t, 0)
	done(t, s, block(0), mask(1, 2), wake(1), yield(1))
	runs(t, s, 0, 1)
	done(t, s, tick(1, 40), block(1), mask(1, 1), tick(0, 1000))
	tells(t, s, wake(1), 0)
	// 240 beyond the Min of 1100: the Min that it left was that of the P 1.
	lies(t, s, 1, 240)
	lies(t, s, 0, 0)
}

// TestBlockAndExit holds P22.2 of EvBlock and EvExit.
func TestBlockAndExit(t *testing.T) {
	s := made(t, plain(2), spawn(0, 0, 1), spawn(0, 0, 1), spawn(0, 0, 1))
	refused(t, s, block(1), api.ErrState)
	refused(t, s, exit(1), api.ErrState)
	tells(t, s, block(0), 0)
	task(t, s, 0, sched.TaskStat{State: api.Blocked, Weight: unit, Mask: 1})
	loads(t, s, 2048, 0)
	runs(t, s, 1, -1)
	tells(t, s, exit(0), 1)
	task(t, s, 1, sched.TaskStat{State: api.Dead})
	tells(t, s, block(0), 2)
	loads(t, s, 0, 0)
	refused(t, s, block(0), api.ErrState)
	refused(t, s, exit(0), api.ErrState)
	done(t, s, wake(0))
	tells(t, s, exit(0), 0)
	refused(t, s, exit(0), api.ErrState)
	if s.Tasks() != 3 {
		t.Errorf("Tasks: %d", s.Tasks())
	}
}

// TestYield holds P22.2 of EvYield: who is told, of those near, those far, and of one alone.
func TestYield(t *testing.T) {
	s := made(t, plain(2), spawn(0, 0, 1))
	refused(t, s, yield(1), api.ErrState)
	tells(t, s, yield(0), 0)
	done(t, s, spawn(0, 0, 1))
	tells(t, s, yield(0), 1)
	tells(t, s, yield(0), 0)
	done(t, s, tick(0, 10))
	runs(t, s, 1)
	tells(t, s, yield(0), 1) // 0 lies 10 ahead
	runs(t, s, 1)
	c := plain(1)
	c.Gran = 10
	s = made(t, c, spawn(0, 0, 1), spawn(0, 0, 1), tick(0, 11))
	runs(t, s, 1)
	tells(t, s, yield(0), 1)
	done(t, s, tick(0, 1))
	tells(t, s, yield(0), 0)
}

// TestYieldWithin holds P22.2 of EvYield: it is the last queue that yields.
func TestYieldWithin(t *testing.T) {
	s := made(t, lasting(1), group(0, unit), spawn(1, 0, 1), spawn(1, 0, 1), spawn(0, 0, 1))
	for _, n := range []int64{1, 0, 1} {
		tells(t, s, yield(0), n)
		runs(t, s, int(n))
	}
	done(t, s, block(0), tick(0, 5))
	tells(t, s, yield(0), 0)
}

// TestTick holds P22.2 of EvTick: of somebody, and of nobody, at both ends of what a tick may be.
func TestTick(t *testing.T) {
	for _, most := range []int64{1, 2, 1000, longest} {
		c := plain(2)
		c.Tick = most
		s := made(t, c, spawn(0, 0, 1))
		for _, n := range []int64{math.MinInt64, -1 << 32, -1, most + 1, 1 << 32, 1<<32 + 1, math.MaxInt64} {
			refused(t, s, tick(0, n), api.ErrTick)
			refused(t, s, tick(1, n), api.ErrTick)
			refused(t, s, tick(2, n), api.ErrArg)
		}
		had := int64(0)
		for _, n := range []int64{0, 1, most - 1, most} {
			tells(t, s, tick(0, n), 0)
			tells(t, s, tick(1, n), -1)
			had += n
			task(t, s, 0, sched.TaskStat{State: api.Running, Weight: unit, Mask: 1, Ns: had})
			groupIs(t, s, 0, sched.GroupStat{There: true, Parent: -1, Ns: had})
			times(t, s, 0, uint64(had), 0)
			times(t, s, 1, 0, uint64(had))
		}
	}
}

// TestTickCredits holds P22.2 of EvTick: each group on the way has the time, by its number, whatever its place; and spends it, if it has a limit.
func TestTickCredits(t *testing.T) {
	s := made(t, lasting(1), group(0, unit), drop(1), group(0, unit), group(2, unit), group(2, unit), group(3, unit), limit(2, 1000, 50), limit(5, 900, 7), limit(4, 30, 10), spawn(5, 0, 1), tick(0, 60))
	for g, want := range []sched.GroupStat{
		{There: true, Parent: -1, Ns: 60},
		{},
		{There: true, Shares: unit, Ns: 60, Quota: 1000, Pool: 1000 - 110, Spent: 60},
		{There: true, Parent: 2, Shares: unit, Ns: 60},
		{There: true, Parent: 2, Shares: unit, Quota: 30, Pool: 30},
		{There: true, Parent: 3, Shares: unit, Ns: 60, Quota: 900, Pool: 900 - 67, Spent: 60},
	} {
		groupIs(t, s, g, want)
	}
	times(t, s, 0, 60, 0)
}

// TestSlices holds P22.2 of EvTick: whose slice is over yields; a slice is of the latency, by the task's weight and its P's load, and begins anew for each one that begins.
func TestSlices(t *testing.T) {
	c := lasting(2)
	c.Latency = 600
	s := made(t, c, spawn(0, 0, 1), spawn(0, 0, 1), spawn(0, 0, 2), tick(0, 299))
	runs(t, s, 0)
	done(t, s, tick(0, 1))
	runs(t, s, 1)
	tells(t, s, tick(0, 299), 1)
	runs(t, s, 1)
	tells(t, s, tick(0, 0), 1)
	runs(t, s, 1)
	tells(t, s, tick(0, 2), 1)
	runs(t, s, 0)
	// Alone it has all of it, and then that again.
	s = made(t, c, spawn(0, 0, 1), tick(0, 600), spawn(0, 0, 1), tick(0, 299))
	runs(t, s, 0)
	done(t, s, tick(0, 1))
	runs(t, s, 1)
	s = made(t, c, spawn(0, 0, 1), tick(0, 599), spawn(0, 0, 1), tick(0, 0))
	runs(t, s, 1)
	// By weights: 3125 of 4149, in one group or another, stopped or not.
	c.Latency = 4149
	s = made(t, c, group(0, unit), spawn(0, -5, 1), spawn(1, 0, 1), tick(0, 3124))
	runs(t, s, 0)
	done(t, s, tick(0, 1))
	runs(t, s, 1)
	done(t, s, tick(0, 1023))
	runs(t, s, 1)
	done(t, s, nice(0, 0), nice(1, -5), tick(0, 2101))
	runs(t, s, 1)
	done(t, s, tick(0, 1), tick(0, 0))
	runs(t, s, 1)
}

// TestRefill holds P22.2 of EvRefill: of one with a limit alone.
func TestRefill(t *testing.T) {
	s := made(t, lasting(1), group(0, unit), limit(1, 30, 10), spawn(1, 0, 1), tick(0, 12))
	groupIs(t, s, 1, sched.GroupStat{There: true, Shares: unit, Ns: 12, Quota: 30, Pool: 8, Spent: 12})
	tells(t, s, refill(1), 0)
	// What the P had is gone, so that it is ensured anew.
	groupIs(t, s, 1, sched.GroupStat{There: true, Shares: unit, Ns: 12, Quota: 30, Pool: 20})
	refused(t, s, refill(0), api.ErrState)
	done(t, s, limit(1, 0, 0))
	refused(t, s, refill(1), api.ErrState)
	refused(t, s, refill(2), api.ErrHandle)
	done(t, s, group(0, unit))
	refused(t, s, refill(2), api.ErrState)
}

// TestPull holds P22.2 of EvPull: from which P, and which task.
func TestPull(t *testing.T) {
	s := made(t, plain(3))
	for p := range 3 {
		refused(t, s, pull(p), api.ErrNone)
	}
	done(t, s, spawn(0, 0, 1), spawn(0, 0, 1), spawn(0, 0, 1))
	refused(t, s, pull(1), api.ErrNone) // none may be there
	done(t, s, mask(0, all), mask(2, 3), mask(1, 1|1<<1|1<<2))
	refused(t, s, pull(0), api.ErrNone)
	tells(t, s, pull(1), 1) // 0 runs
	loads(t, s, 2048, 1024, 0)
	runs(t, s, 0, 1, -1)
	refused(t, s, pull(1), api.ErrNone) // it would weigh as much as the gap
	refused(t, s, pull(2), api.ErrNone) // 2 may not be there
	done(t, s, mask(2, all))
	tells(t, s, pull(2), 2)
	loads(t, s, 1024, 1024, 1024)
	for p := range 3 {
		refused(t, s, pull(p), api.ErrNone)
	}
	refused(t, s, pull(3), api.ErrArg)
	task(t, s, 2, sched.TaskStat{State: api.Running, P: 2, Weight: unit, Mask: all})
	one := made(t, plain(1), spawn(0, 0, 1), spawn(0, 0, 1))
	refused(t, one, pull(0), api.ErrNone)
}

// TestPullChooses holds P22.2 of EvPull: the busiest P alone is asked, and of its tasks the one that chapter 16 chooses, by numbers, not by places.
func TestPullChooses(t *testing.T) {
	// The first one is dead, so that 3 has its place, and is asked behind 2.
	s := made(t, plain(3), spawn(0, 0, 1), spawn(0, 0, 1), spawn(0, 0, 1), exit(0), spawn(0, 0, 1))
	done(t, s, mask(3, all), mask(2, all), spawn(0, 0, 2))
	runs(t, s, 1, 4, -1)
	tells(t, s, pull(1), 2)
	// The P 2 is as busy as the P 1, and less than the P 0.
	s = made(t, plain(3), spawn(0, 0, 1), spawn(0, -5, 1), spawn(0, 3, 1), spawn(0, 0, 2), spawn(0, 0, 2), mask(0, all), mask(1, all), mask(2, all), mask(3, all), mask(4, all))
	loads(t, s, 1024+3125+524, 2048, 0)
	tells(t, s, pull(2), 2) // twice 3125 is more than the gap, 524 isn't
	tells(t, s, pull(2), 1) // a gap of 3625
	loads(t, s, 1024, 2048, 524+3125)
	refused(t, s, pull(0), api.ErrNone) // a gap of 2625: 2 runs there, and 1 weighs more
	done(t, s, tick(2, 10))
	runs(t, s, 0, 3, 1)
	tells(t, s, pull(0), 2)
}

// TestPullCarries holds P22.2 of EvPull, and P22.4: one that is pulled lies as far behind as it did; or not at all, if nobody else stands there.
func TestPullCarries(t *testing.T) {
	c := plain(3)
	c.Credit = 10
	s := made(t, c, spawn(0, 0, 1), spawn(0, 0, 1), spawn(0, 0, 1), spawn(0, 0, 2), tick(0, 100), tick(0, 30), tick(1, 500), mask(0, all), mask(1, all))
	runs(t, s, 2, 3, -1)
	lies(t, s, 0, 100)
	lies(t, s, 1, 30)
	tells(t, s, pull(1), 0)
	lies(t, s, 0, 100)
	lies(t, s, 1, 30)
	tells(t, s, pull(2), 1)
	lies(t, s, 1, 0)
	lies(t, s, 2, 0)
	// One that lies ahead of the Min, by its credit, lies so there, too.
	c = lasting(2)
	c.Credit = 10
	s = made(t, c, spawn(0, 0, 1), spawn(0, 0, 1), block(0), tick(0, 50), wake(0), spawn(0, 0, 1), spawn(0, 0, 1), spawn(0, 0, 2), tick(1, 500), mask(0, all))
	runs(t, s, 1, 4)
	lies(t, s, 0, -10)
	tells(t, s, pull(1), 0)
	lies(t, s, 0, -10)
	lies(t, s, 4, 0)
}

// TestNice holds P22.2 of EvNice: of who runs, who waits, and who is blocked.
func TestNice(t *testing.T) {
	s := made(t, plain(1), spawn(0, 0, 1), spawn(0, 0, 1), spawn(0, 0, 1), block(0))
	for n, state := range []int{api.Blocked, api.Running, api.Runnable} {
		for _, r := range []struct {
			nice int64
			w    uint64
		}{{-20, 88817}, {-1, 1280}, {1, 819}, {19, 14}, {0, 1024}} {
			tells(t, s, nice(n, r.nice), 0)
			task(t, s, n, sched.TaskStat{State: state, Nice: int(r.nice), Weight: r.w, Mask: 1})
			want := 1024 + r.w
			if state == api.Blocked {
				want = 2048
			}
			loads(t, s, want)
		}
		for _, to := range []int64{math.MinInt64, -1 << 32, -21, 20, 1 << 32, math.MaxInt64} {
			refused(t, s, nice(n, to), api.ErrArg)
		}
	}
	refused(t, s, nice(3, 0), api.ErrHandle)
}

// TestNiceKeepsParts holds P22.2 of EvNice: what is left over is of the new weight then. Of 205 of 819 that is 22231 of 88817, which 66 nanoseconds bring beyond a unit, and 65 don't.
func TestNiceKeepsParts(t *testing.T) {
	for _, blocked := range []bool{false, true} {
		c := lasting(1)
		c.Credit = top
		s := made(t, c, spawn(0, 1, 1), spawn(0, 0, 1), tick(0, 1))
		lies(t, s, 0, 1)
		if blocked {
			done(t, s, block(0), nice(0, -20), wake(0), yield(0))
		} else {
			done(t, s, nice(0, -20))
		}
		runs(t, s, 0)
		done(t, s, tick(0, 65))
		lies(t, s, 0, 1)
		done(t, s, tick(0, 1))
		lies(t, s, 0, 2)
	}
}

// TestMask holds P22.2 of EvMask: of one that may stay, of one that may not, and of one that is on no P.
func TestMask(t *testing.T) {
	s := made(t, plain(4), spawn(0, 0, 1), spawn(0, 0, 1), spawn(0, 0, 2), spawn(0, 1, 4), spawn(0, 0, 1), block(0))
	states := []int{api.Blocked, api.Running, api.Running, api.Running, api.Runnable}
	for n, p := range []int{0, 0, 1, 2, 0} {
		for _, m := range []uint64{all, 1<<p | 1<<60, 1 << p} {
			tells(t, s, mask(n, m), 0)
			if got := s.Task(n); got.Mask != m || got.P != p || got.State != states[n] {
				t.Fatalf("mask of %d: %+v", n, got)
			}
		}
		for _, m := range []uint64{0, 1 << 4, 1 << 63, all &^ 15} {
			refused(t, s, mask(n, m), api.ErrMask)
		}
	}
	refused(t, s, mask(5, all), api.ErrHandle)
	tells(t, s, mask(0, 2), 0)
	task(t, s, 0, sched.TaskStat{State: api.Blocked, Weight: unit, Mask: 2})
	// The one that runs goes to the least P, the one that waits to an idle one.
	tells(t, s, mask(1, 6), 0)
	task(t, s, 1, sched.TaskStat{State: api.Runnable, P: 2, Weight: unit, Mask: 6})
	runs(t, s, 4, 2, 3, -1)
	tells(t, s, mask(4, 14), 0)
	runs(t, s, -1, 2, 3, 4)
	loads(t, s, 0, 1024, 1843, 1024)
	tells(t, s, wake(0), 1)
}

// TestMaskCarries holds P22.2 of EvMask: who goes to another P lies as far behind there, without a credit.
func TestMaskCarries(t *testing.T) {
	s := moved(t, 1000)
	done(t, s, mask(1, 2))
	lies(t, s, 1, 200)
	lies(t, s, 0, 0)
	s = moved(t, 1000)
	done(t, s, mask(0, 2))
	lies(t, s, 0, 0)
	lies(t, s, 2, 0)
	task(t, s, 0, sched.TaskStat{State: api.Runnable, P: 1, Weight: unit, Mask: 2, Ns: 100})
}
