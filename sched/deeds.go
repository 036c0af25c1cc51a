package sched

import (
	"cmp"
	"math"
	"slices"

	"dole/api"
	"dole/fifo"
	"dole/load"
	"dole/nice"
	"dole/place"
	"dole/pull"
	"dole/quota"
	"dole/renorm"
	"dole/wide"
)

// deed is what an event does: what it tells, or an error, with which it did nothing.
type deed func(s *Sched, e api.Event) (int64, api.Errno)

// deeds are those of all kinds.
func deeds() map[int]deed {
	return map[int]deed{
		api.EvGroup:  (*Sched).makeGroup,
		api.EvDrop:   (*Sched).dropGroup,
		api.EvMove:   (*Sched).moveGroup,
		api.EvShares: (*Sched).giveShares,
		api.EvQuota:  (*Sched).giveQuota,
		api.EvSpawn:  (*Sched).spawn,
		api.EvWake:   (*Sched).wake,
		api.EvBlock:  (*Sched).block,
		api.EvYield:  (*Sched).yield,
		api.EvExit:   (*Sched).exit,
		api.EvTick:   (*Sched).goOn,
		api.EvRefill: (*Sched).refill,
		api.EvPull:   (*Sched).pullOver,
		api.EvNice:   (*Sched).giveNice,
		api.EvMask:   (*Sched).giveMask,
	}
}

func (s *Sched) makeGroup(e api.Event) (int64, api.Errno) {
	parent := s.findGroup(e.A)
	switch {
	case parent == nil:
		return 0, api.ErrHandle
	case !isWeight(e.N):
		return 0, api.ErrWeight
	}
	h, err := s.tree.Create(parent.handle)
	if err != api.OK {
		return 0, err
	}
	for _, c := range s.cpus {
		c.queues.Link(h.Index, parent.handle.Index)
	}
	band, _ := quota.New(len(s.cpus))
	g := &group{number: s.groupsEver, handle: h, shares: uint64(e.N), band: band, line: fifo.New()}
	s.groups[h.Index] = g
	s.groupsEver++
	return int64(g.number), api.OK
}

func (s *Sched) dropGroup(e api.Event) (int64, api.Errno) {
	g := s.findGroup(e.A)
	switch {
	case g == nil:
		return 0, api.ErrHandle
	case s.first(func(t *task) bool { return t.group == g }) != nil:
		return 0, api.ErrBusy
	}
	if err := s.tree.Destroy(g.handle); err != api.OK {
		return 0, err
	}
	for _, c := range s.cpus {
		c.queues.Unlink(g.handle.Index)
	}
	s.groups[g.handle.Index] = nil
	return 0, api.OK
}

func (s *Sched) moveGroup(e api.Event) (int64, api.Errno) {
	g, parent := s.findGroup(e.A), s.findGroup(e.B)
	switch {
	case g == nil || parent == nil:
		return 0, api.ErrHandle
	case s.first(func(t *task) bool { return t.on && s.tree.Under(t.group.handle, g.handle) }) != nil:
		return 0, api.ErrBusy
	}
	if err := s.tree.Move(g.handle, parent.handle); err != api.OK {
		return 0, err
	}
	for _, c := range s.cpus {
		c.queues.Move(g.handle.Index, parent.handle.Index)
	}
	return 0, api.OK
}

func (s *Sched) giveShares(e api.Event) (int64, api.Errno) {
	g, err := s.findLower(e.A)
	switch {
	case err != api.OK:
		return 0, err
	case !isWeight(e.N):
		return 0, api.ErrWeight
	}
	g.shares = uint64(e.N)
	return 0, api.OK
}

func (s *Sched) giveQuota(e api.Event) (int64, api.Errno) {
	g, err := s.findLower(e.A)
	if err != api.OK {
		return 0, err
	}
	if err := g.band.Set(e.N, e.M); err != api.OK {
		return 0, err
	}
	g.quota = e.N
	for p, is := g.line.Take(); is; p, is = g.line.Take() {
		s.letGo(g, p)
	}
	return 0, api.OK
}

func (s *Sched) spawn(e api.Event) (int64, api.Errno) {
	g := s.findGroup(e.A)
	if g == nil {
		return 0, api.ErrHandle
	}
	w, err := nice.Weight(int(e.N))
	switch {
	case err != api.OK:
		return 0, err
	case !s.mayRun(e.Mask):
		return 0, api.ErrMask
	}
	t := &task{number: s.tasksEver, group: g, nice: int(e.N), mask: e.Mask, p: s.choose(nobody, e.Mask)}
	t.handle, err = s.tasks.Put(t)
	if err != api.OK {
		return 0, err
	}
	t.ent = api.Ent{Id: t.handle.Index, Weight: w, V: s.least(t)}
	s.stand(t)
	s.tasksEver++
	return int64(t.number), api.OK
}

func (s *Sched) wake(e api.Event) (int64, api.Errno) {
	t := s.findTask(e.A)
	switch {
	case t == nil:
		return 0, api.ErrHandle
	case t.on:
		return 0, api.ErrState
	}
	s.carry(t, s.choose(t.p, t.mask))
	t.ent.V = renorm.Wake(t.ent.V, s.least(t), s.credit)
	s.stand(t)
	return int64(t.p), api.OK
}

func (s *Sched) block(e api.Event) (int64, api.Errno) {
	t, err := s.runner(e.A)
	if err != api.OK {
		return 0, err
	}
	s.leave(t)
	return int64(t.number), api.OK
}

func (s *Sched) exit(e api.Event) (int64, api.Errno) {
	t, err := s.runner(e.A)
	if err != api.OK {
		return 0, err
	}
	s.leave(t)
	s.tasks.Free(t.handle)
	return int64(t.number), api.OK
}

func (s *Sched) yield(e api.Event) (int64, api.Errno) {
	if _, err := s.runner(e.A); err != api.OK {
		return 0, err
	}
	// Somebody may run there, so that one is told.
	return int64(inPlace(s.alive(), s.cpus[e.A].queues.Yield()).number), api.OK
}

func (s *Sched) goOn(e api.Event) (int64, api.Errno) {
	switch {
	case !s.hasP(e.A):
		return 0, api.ErrArg
	case !lies(e.N, 0, s.tick):
		return 0, api.ErrTick
	}
	t, err := s.runner(e.A)
	if err != api.OK {
		// Nobody's time has neither a weight nor a load.
		s.cpus[e.A].clock.Tick(uint64(e.N), 0, 0)
		return nobody, api.OK
	}
	return int64(t.number), s.serve(t, e.N)
}

// serve lets a task that runs go on, and with it its P's clock.
func (s *Sched) serve(t *task, ns int64) api.Errno {
	way := s.way(t.group)
	var numbers []int
	for _, g := range way {
		numbers = append(numbers, g.number)
	}
	if err := s.book.Credit(numbers, t.number, ns); err != api.OK {
		return err
	}
	c := s.cpus[t.p]
	c.queues.Charge(uint64(ns))
	for _, g := range way {
		if g.band.Limited() {
			g.band.Charge(t.p, ns)
		}
	}
	if over, _ := c.clock.Tick(uint64(ns), t.ent.Weight, s.Loads()[t.p]); over {
		c.queues.Yield()
		c.clock.Begin(nobody)
	}
	return api.OK
}

func (s *Sched) refill(e api.Event) (int64, api.Errno) {
	g := s.findGroup(e.A)
	switch {
	case g == nil:
		return 0, api.ErrHandle
	case !g.band.Limited():
		return 0, api.ErrState
	}
	g.band.Refill()
	return 0, api.OK
}

func (s *Sched) pullOver(e api.Event) (int64, api.Errno) {
	if !s.hasP(e.A) {
		return 0, api.ErrArg
	}
	loads := s.Loads()
	from := load.Busiest(loads, e.A, math.MaxUint64)
	if from == nobody {
		return 0, api.ErrNone
	}
	there := s.standing(from)
	i, is := pull.Choose(s.candidates(there), loads[from], loads[e.A], e.A)
	if !is {
		return 0, api.ErrNone
	}
	t := there[i]
	s.leave(t)
	s.carry(t, e.A)
	s.stand(t)
	return int64(t.number), api.OK
}

// standing are the tasks on a P, by rising numbers.
func (s *Sched) standing(p int) []*task {
	out := slices.DeleteFunc(s.alive(), func(t *task) bool { return !t.on || t.p != p })
	slices.SortFunc(out, func(a, b *task) int { return cmp.Compare(a.number, b.number) })
	return out
}

func (s *Sched) candidates(l []*task) []pull.Cand {
	var out []pull.Cand
	for _, t := range l {
		out = append(out, pull.Cand{Id: t.number, Weight: t.ent.Weight, Mask: t.mask, Runs: s.runs(t)})
	}
	return out
}

func (s *Sched) giveNice(e api.Event) (int64, api.Errno) {
	t := s.findTask(e.A)
	if t == nil {
		return 0, api.ErrHandle
	}
	w, err := nice.Weight(int(e.N))
	if err != api.OK {
		return 0, err
	}
	if t.on {
		s.cpus[t.p].queues.Nice(t.group.handle.Index, t.ent.Id, w)
	} else {
		// What is left over is below the old weight, so that the quotient is below the new one: it always fits.
		t.ent.Rem, _, _ = wide.MulDiv(t.ent.Rem, w, t.ent.Weight)
	}
	t.nice, t.ent.Weight = int(e.N), w
	return 0, api.OK
}

func (s *Sched) giveMask(e api.Event) (int64, api.Errno) {
	t := s.findTask(e.A)
	switch {
	case t == nil:
		return 0, api.ErrHandle
	case !s.mayRun(e.Mask):
		return 0, api.ErrMask
	}
	t.mask = e.Mask
	if t.on && t.mask>>t.p&1 == 0 {
		s.leave(t)
		s.carry(t, s.choose(nobody, t.mask))
		s.stand(t)
	}
	return 0, api.OK
}

func isWeight(n int64) bool { return lies(n, api.MinWeight, api.MaxWeight) }

// findLower is a group that is there, but the root.
func (s *Sched) findLower(n int) (*group, api.Errno) {
	switch g := s.findGroup(n); {
	case g == nil:
		return nil, api.ErrHandle
	case g.number == root:
		return nil, api.ErrArg
	default:
		return g, api.OK
	}
}

// runner is the task that runs on a P.
func (s *Sched) runner(p int) (*task, api.Errno) {
	if !s.hasP(p) {
		return nil, api.ErrArg
	}
	t := s.findTask(s.Running(p))
	if t == nil {
		return nil, api.ErrState
	}
	return t, api.OK
}

// mayRun tells whether a mask has one of the Ps.
func (s *Sched) mayRun(mask uint64) bool { return load.Least(s.Loads(), mask) != nobody }

// choose is the P, of a mask that has one, for a task that was on one (-1: on none).
func (s *Sched) choose(prev int, mask uint64) int {
	running := make([]bool, len(s.cpus))
	for p := range running {
		running[p] = s.Running(p) != nobody
	}
	p, _ := place.Choose(s.Loads(), running, prev, mask)
	return p
}

// leave takes a task off its P.
func (s *Sched) leave(t *task) {
	t.min = s.least(t)
	t.ent, _ = s.cpus[t.p].queues.Drop(t.group.handle.Index, t.ent.Id)
	t.on = false
}

// carry lets a task that left a P lie as far behind on another one.
func (s *Sched) carry(t *task, p int) {
	if p == t.p {
		return
	}
	t.p = p
	t.ent.V, _ = renorm.Move(t.ent.V, t.min, s.least(t))
}

// stand puts a task into its group's queue.
func (s *Sched) stand(t *task) {
	s.cpus[t.p].queues.Put(t.group.handle.Index, t.ent)
	t.on = true
}

// least is the Min of a task's queue.
func (s *Sched) least(t *task) int64 { return s.cpus[t.p].queues.Min(t.group.handle.Index) }
