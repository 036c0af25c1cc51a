package sched_test

import (
	"testing"

	"dole/api"
	"dole/sched"
)

// limited is what a group of the weight 1024 within the root tells that has a limit.
func limited(ns, quota, pool, spent int64, stopped uint64) sched.GroupStat {
	return sched.GroupStat{There: true, Shares: unit, Ns: ns, Quota: quota, Pool: pool, Spent: spent, Stopped: stopped}
}

// TestWeighs holds P22.2 of how it settles: a group weighs on each P a part of its shares, as its load there is of all. As the tasks 0 and 1 wait, 10000 beyond where they began, and the group is the root's least one, they tell how far that went.
func TestWeighs(t *testing.T) {
	s := made(t, lasting(2), group(0, 1000), spawn(0, 0, 1), spawn(0, 0, 2), spawn(1, 0, 1), spawn(1, 0, 1), spawn(1, 0, 2), tick(0, 10000), yield(0), tick(1, 10000), yield(1))
	runs(t, s, 2, 4)
	done(t, s, tick(0, 666), tick(1, 333))
	lies(t, s, 0, 10000-1024)
	lies(t, s, 1, 10000-1024)
	// Other shares.
	done(t, s, shares(1, 3000), tick(0, 2000), tick(1, 1000))
	lies(t, s, 0, 10000-2048)
	lies(t, s, 1, 10000-2048)
	// Another load on one P weighs on both: 2048 and 3125 of 5173.
	done(t, s, nice(4, -5), tick(0, 1187), tick(1, 1812))
	lies(t, s, 0, 10000-3072)
	lies(t, s, 1, 10000-3072)
	// One that leaves, and one that comes.
	done(t, s, block(1), tick(0, 3000))
	lies(t, s, 0, 10000-4096)
	done(t, s, wake(4), tick(0, 1187))
	lies(t, s, 0, 10000-5120)
}

// TestWeighsWithin holds the Words of a group's load: it is that of all below it, and each one within it has its own.
func TestWeighsWithin(t *testing.T) {
	s := made(t, lasting(1), group(0, 500), group(1, 300), spawn(0, 0, 1), spawn(1, 0, 1), spawn(2, 0, 1), tick(0, 10000), yield(0))
	runs(t, s, 1)
	done(t, s, tick(0, 1000))
	lies(t, s, 0, 10000-2048) // the group 1 weighs all of its 500
	lies(t, s, 1, 1000)
	done(t, s, yield(0))
	runs(t, s, 2)
	done(t, s, tick(0, 150))
	lies(t, s, 0, 10000-2355) // 150 more by 500: 307, and a part
	lies(t, s, 1, 1000-512)   // 150 by 300
}

// TestWeighsLight holds how it settles: a group that has nobody on a P isn't weighed there, so that no part of a vruntime is lost: by 3, three nanoseconds make 1024.
func TestWeighsLight(t *testing.T) {
	c := sched.Config{Ps: 1, Tick: longest, Credit: top, Latency: longest}
	s := made(t, c, group(0, 3), spawn(0, 0, 1), spawn(1, 0, 1), tick(0, 1023))
	runs(t, s, 1)
	done(t, s, tick(0, 1), block(0))
	runs(t, s, 0)
	done(t, s, wake(1))
	runs(t, s, 1)
	done(t, s, tick(0, 1))
	runs(t, s, 1)
	done(t, s, tick(0, 1))
	runs(t, s, 0)
}

// TestEnsures holds how it settles: a P that is to run a task of a group with a limit has a slice, if there is one; if there isn't, another one runs, or nobody.
func TestEnsures(t *testing.T) {
	s := made(t, lasting(2), group(0, unit), limit(1, 10, 4), spawn(1, 0, 1), spawn(1, 0, 2))
	groupIs(t, s, 1, limited(0, 10, 2, 0, 0))
	done(t, s, tick(0, 5))
	groupIs(t, s, 1, limited(5, 10, 0, 5, 0)) // it owed one, and got that, and one more
	done(t, s, tick(0, 1))
	groupIs(t, s, 1, limited(6, 10, 0, 6, 1))
	runs(t, s, -1, 1)
	task(t, s, 0, sched.TaskStat{State: api.Runnable, Group: 1, Weight: unit, Mask: 1, Ns: 6})
	loads(t, s, unit, unit) // it is there still
	tells(t, s, tick(0, 9), -1)
	refused(t, s, block(0), api.ErrState)
	done(t, s, spawn(0, 0, 1))
	runs(t, s, 2, 1)
	// As 1 leaves, its P returns what it has, and the P 0 gets that.
	done(t, s, block(1))
	groupIs(t, s, 1, limited(6, 10, 0, 6, 0))
	runs(t, s, 2, -1)
	done(t, s, yield(0))
	runs(t, s, 0, -1)
	done(t, s, tick(0, 4))
	groupIs(t, s, 1, limited(10, 10, 0, 10, 1))
	runs(t, s, 2, -1)
	// It is stopped where it is picked, and not before.
	done(t, s, wake(1))
	groupIs(t, s, 1, limited(10, 10, 0, 10, 3))
	done(t, s, refill(1))
	groupIs(t, s, 1, limited(10, 10, 2, 0, 0))
	runs(t, s, 2, 1)
}

// TestReturns holds how it settles: what a P has where a group has no load is the pool's again, of each group with a limit, even of one that is stopped elsewhere.
func TestReturns(t *testing.T) {
	s := made(t, plain(3), group(0, unit), limit(1, 100, 40), spawn(1, 0, 1), spawn(1, 0, 2), spawn(0, 0, 1))
	groupIs(t, s, 1, limited(0, 100, 20, 0, 0))
	done(t, s, block(1))
	groupIs(t, s, 1, limited(0, 100, 60, 0, 0))
	done(t, s, wake(1))
	groupIs(t, s, 1, limited(0, 100, 20, 0, 0))
	// It isn't served on the P 0, but it waits there, and keeps its slice.
	done(t, s, tick(0, 1))
	runs(t, s, 2, 1, -1)
	groupIs(t, s, 1, limited(1, 100, 20, 1, 0))
	done(t, s, mask(0, 4))
	runs(t, s, 2, 1, 0)
	groupIs(t, s, 1, limited(1, 100, 19, 1, 0))
	done(t, s, exit(2), exit(1))
	groupIs(t, s, 1, limited(1, 100, 99, 1, 0))
}

// TestLine holds how it settles: of the Ps where a group is stopped the one that waits longest gets first, and who owes gets what it owes, too.
func TestLine(t *testing.T) {
	s := made(t, lasting(3), group(0, unit), limit(1, 9, 3), spawn(1, 0, 1), spawn(1, 0, 2), spawn(1, 0, 4), tick(2, 5), tick(0, 5), tick(1, 5))
	groupIs(t, s, 1, limited(15, 9, 0, 15, 7))
	done(t, s, refill(1))
	groupIs(t, s, 1, limited(15, 9, 0, 0, 2))
	runs(t, s, 0, -1, 2)
	// The P 2 had 3, the P 0 had 2; the P 1 owes 2 still.
	done(t, s, tick(2, 2), tick(0, 1))
	runs(t, s, 0, -1, 2)
	done(t, s, tick(0, 1))
	runs(t, s, -1, -1, 2)
	done(t, s, tick(2, 3))
	groupIs(t, s, 1, limited(22, 9, 0, 7, 7))
	done(t, s, refill(1))
	groupIs(t, s, 1, limited(22, 9, 0, 0, 4))
	runs(t, s, 0, 1, -1)
}

// TestLineAgain holds how it settles: who isn't ensured by all that is left stands in the line again, behind all others.
func TestLineAgain(t *testing.T) {
	s := made(t, lasting(2), group(0, unit), limit(1, 4, 2), spawn(1, 0, 1), spawn(1, 0, 2), tick(1, 10), tick(0, 2))
	groupIs(t, s, 1, limited(12, 4, 0, 12, 3))
	done(t, s, refill(1)) // all for the P 1, which owes 4 then
	groupIs(t, s, 1, limited(12, 4, 0, 0, 3))
	done(t, s, refill(1)) // 2 for the P 0, and 2 for the P 1
	groupIs(t, s, 1, limited(12, 4, 0, 0, 2))
	runs(t, s, 0, -1)
	done(t, s, refill(1)) // 4 for the P 1; what the P 0 had is gone
	groupIs(t, s, 1, limited(12, 4, 0, 0, 1))
	runs(t, s, -1, 1)
}

// TestLineOfNobody holds how it settles: the line is asked whether a group has somebody there or not.
func TestLineOfNobody(t *testing.T) {
	s := made(t, lasting(2), group(0, unit), limit(1, 4, 2), spawn(1, 0, 1), spawn(1, 0, 2), tick(0, 2), mask(0, 2))
	groupIs(t, s, 1, limited(2, 4, 0, 2, 1))
	// The P 0, which is the first one, takes 2 of these, though nobody is there; and returns them as it settles again.
	done(t, s, refill(1))
	groupIs(t, s, 1, limited(2, 4, 0, 0, 0))
	runs(t, s, -1, 1)
	done(t, s, tick(0, 0))
	groupIs(t, s, 1, limited(2, 4, 2, 0, 0))
}

// TestStopsAbove holds how it settles: a group above that has no time stops all below it, and what those have is not asked for.
func TestStopsAbove(t *testing.T) {
	s := made(t, lasting(1), group(0, unit), group(1, unit), limit(1, 10, 10), limit(2, 100, 10), spawn(1, 0, 1), spawn(2, 0, 1), tick(0, 3), yield(0))
	runs(t, s, 1)
	done(t, s, tick(0, 7))
	runs(t, s, -1)
	groupIs(t, s, 1, limited(10, 10, 0, 10, 1))
	groupIs(t, s, 2, sched.GroupStat{There: true, Parent: 1, Shares: unit, Ns: 7, Quota: 100, Pool: 90, Spent: 7})
	done(t, s, refill(1))
	runs(t, s, 1)
	// The lower one alone is stopped: another one of the upper one runs.
	done(t, s, limit(1, 0, 0), limit(2, 5, 5), tick(0, 5))
	groupIs(t, s, 2, sched.GroupStat{There: true, Parent: 1, Shares: unit, Ns: 12, Quota: 5, Spent: 5, Stopped: 1})
	runs(t, s, 0)
	done(t, s, block(0))
	runs(t, s, -1)
	done(t, s, refill(2))
	runs(t, s, 1)
}

// TestStopsFirstAbove holds how it settles, by its words: at the first group from the root down that has no time the P chooses anew, so that the pool of one further down stays as it was.
func TestStopsFirstAbove(t *testing.T) {
	s := made(t, lasting(2), group(0, unit), group(1, unit), limit(1, 10, 10), limit(2, 100, 10), spawn(2, 0, 1), tick(0, 10))
	runs(t, s, -1, -1)
	lower := sched.GroupStat{There: true, Parent: 1, Shares: unit, Ns: 10, Quota: 100, Pool: 80, Spent: 10}
	groupIs(t, s, 2, lower)
	done(t, s, spawn(2, 0, 2))
	groupIs(t, s, 1, limited(10, 10, 0, 10, 3))
	groupIs(t, s, 2, lower)
	// From the root down: the upper one's slice is drawn, though the lower one has none.
	s = made(t, lasting(2), group(0, unit), group(1, unit), limit(1, 100, 10), limit(2, 10, 10), spawn(2, 0, 1), tick(0, 10))
	groupIs(t, s, 1, limited(10, 100, 80, 10, 0))
	done(t, s, spawn(2, 0, 2))
	groupIs(t, s, 1, limited(10, 100, 70, 10, 0))
	groupIs(t, s, 2, sched.GroupStat{There: true, Parent: 1, Shares: unit, Ns: 10, Quota: 10, Spent: 10, Stopped: 3})
}

// TestPicksAnew holds how it settles: behind each event each P picks, as it may then.
func TestPicksAnew(t *testing.T) {
	c := plain(2)
	c.Credit = 100
	s := made(t, c, spawn(0, 0, 1), spawn(0, 0, 1), block(0), tick(0, 500))
	runs(t, s, 1)
	done(t, s, wake(0)) // 100 ahead of the one that runs
	runs(t, s, 0)
	task(t, s, 1, sched.TaskStat{State: api.Runnable, Weight: unit, Mask: 1, Ns: 500})
	done(t, s, tick(0, 100))
	runs(t, s, 0)
	done(t, s, tick(0, 1))
	runs(t, s, 1)
	// The one whom a pick puts down begins anew when it is picked again.
	c = plain(1)
	c.Gran, c.Latency = 1000, 3000
	s = made(t, c, spawn(0, 0, 1), spawn(0, 0, 1), tick(0, 900), tick(0, 200))
	runs(t, s, 1)
	times(t, s, 0, 1100, 0)
}
