package sched

import (
	"dole/load"
	"dole/share"
)

// settle is what comes behind each event.
func (s *Sched) settle() {
	loads := s.loads()
	for at, g := range s.groups {
		if g != nil && at != root {
			s.weigh(g, loads[at])
		}
	}
	for at, g := range s.groups {
		if g != nil && g.band.Limited() {
			s.distribute(g, loads[at])
		}
	}
	tasks := s.alive()
	for p := range s.cpus {
		s.pick(p, tasks)
	}
}

// weigh gives a group its weight on each P where it has somebody.
func (s *Sched) weigh(g *group, loads []uint64) {
	all := load.Sum(loads)
	for p, here := range loads {
		if here > 0 {
			s.cpus[p].queues.Weigh(g.handle.Index, share.Weight(g.shares, here, all))
		}
	}
}

// distribute takes back what Ps have without need, and lets those that wait go, while something is left of the pool.
func (s *Sched) distribute(g *group, loads []uint64) {
	for p, here := range loads {
		if here == 0 {
			g.band.Return(p)
		}
	}
	// This ends: a P that isn't ensured has left nothing in the pool.
	for g.band.Pool() > 0 {
		p, is := g.line.Take()
		if !is {
			return
		}
		if g.band.Ensure(p) {
			s.letGo(g, p)
		} else {
			g.line.Put(p)
		}
	}
}

// letGo lets a group that has left its line run again on a P.
func (s *Sched) letGo(g *group, p int) { s.cpus[p].queues.Stop(g.handle.Index, false) }

// pick lets a P run one of all tasks of which each group above has time there.
func (s *Sched) pick(p int, tasks []*task) {
	c := s.cpus[p]
	for {
		t := inPlace(tasks, c.queues.Pick())
		if t == nil {
			c.clock.Begin(nobody)
			return
		}
		g := s.lacking(t.group, p)
		if g == nil {
			c.clock.Begin(t.number)
			return
		}
		// It is picked no more there, so that the choosing ends.
		c.queues.Stop(g.handle.Index, true)
		g.line.Put(p)
	}
}

// lacking is the first group, on the way from the root down to one, that has no time on a P, or nil.
func (s *Sched) lacking(bottom *group, p int) *group {
	for _, g := range s.way(bottom) {
		if g.band.Limited() && !g.band.Ensure(p) {
			return g
		}
	}
	return nil
}
