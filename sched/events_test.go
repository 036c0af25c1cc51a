package sched_test

import (
	"slices"

	"dole/api"
	"dole/sched"
)

// do is what the model answers.
func (m *model) do(e api.Event) sched.Answer {
	n, err := m.event(e)
	if err != api.OK {
		return sched.Answer{Err: err}
	}
	m.settle()
	return sched.Answer{N: n}
}

// event asks first for what A is to be.
func (m *model) event(e api.Event) (int64, api.Errno) {
	switch e.Kind {
	case api.EvGroup, api.EvDrop, api.EvMove, api.EvShares, api.EvQuota, api.EvRefill, api.EvSpawn:
		if m.group(e.A) == nil {
			return 0, api.ErrHandle
		}
		return m.eventOfGroup(e, m.groups[e.A])
	case api.EvWake, api.EvNice, api.EvMask:
		if m.task(e.A) == nil {
			return 0, api.ErrHandle
		}
		return m.eventOfTask(e, m.tasks[e.A])
	case api.EvBlock, api.EvYield, api.EvExit, api.EvTick, api.EvPull:
		if e.A < 0 || e.A >= m.c.Ps {
			return 0, api.ErrArg
		}
		return m.eventOfP(e, e.A)
	}
	return 0, api.ErrArg
}

func (m *model) eventOfGroup(e api.Event, g *modelGroup) (int64, api.Errno) {
	weighs := lightest <= e.N && e.N <= heaviest
	switch e.Kind {
	case api.EvGroup:
		switch {
		case !weighs:
			return 0, api.ErrWeight
		case m.depth(e.A) == deep:
			return 0, api.ErrDeep
		case len(m.below(0)) == groups:
			return 0, api.ErrFull
		}
		m.addGroup(e.A, uint64(e.N))
		return int64(len(m.groups) - 1), api.OK
	case api.EvDrop:
		return 0, m.drop(e.A)
	case api.EvMove:
		return 0, m.move(e.A, e.B)
	case api.EvShares:
		switch {
		case e.A == 0:
			return 0, api.ErrArg
		case !weighs:
			return 0, api.ErrWeight
		}
		g.shares = uint64(e.N)
		return 0, api.OK
	case api.EvQuota:
		return 0, m.limit(e)
	case api.EvRefill:
		if g.quota == 0 {
			return 0, api.ErrState
		}
		g.pool, g.spent = g.quota, 0
		for p := range g.local {
			g.local[p] = min(g.local[p], 0)
		}
		return 0, api.OK
	}
	return m.spawn(e)
}

func (m *model) drop(n int) api.Errno {
	switch {
	case m.has(func(t *modelTask) bool { return t.group == n }) > 0:
		return api.ErrBusy
	case n == 0:
		return api.ErrArg
	case len(m.below(n)) > 1:
		return api.ErrBusy
	}
	g := m.groups[n]
	g.there = false
	m.groupPlaces.freed = append(m.groupPlaces.freed, g.at)
	return api.OK
}

func (m *model) move(n, to int) api.Errno {
	if m.group(to) == nil {
		return api.ErrHandle
	}
	deepest := 0
	for _, x := range m.below(n) {
		deepest = max(deepest, m.depth(x)-m.depth(n))
	}
	switch {
	case m.has(func(t *modelTask) bool { return t.on() && m.under(t.group, n) }) > 0:
		return api.ErrBusy
	case n == 0:
		return api.ErrArg
	case m.under(to, n):
		return api.ErrLoop
	case m.depth(to)+1+deepest > deep:
		return api.ErrDeep
	}
	g := m.groups[n]
	for p := range g.own {
		g.own[p].v += m.groups[to].min[p] - m.groups[g.up].min[p]
	}
	g.up = to
	return api.OK
}

func (m *model) limit(e api.Event) api.Errno {
	switch {
	case e.A == 0, e.N < 0, e.N > top:
		return api.ErrArg
	case e.N > 0 && (e.M < 1 || e.M > top):
		return api.ErrArg
	}
	g := m.groups[e.A]
	g.quota, g.slice, g.pool, g.spent = e.N, e.M, e.N, 0
	clear(g.local)
	for len(g.line) > 0 {
		p := g.line[0]
		g.line = g.line[1:]
		m.settled(e.A, p)
	}
	return api.OK
}

func (m *model) spawn(e api.Event) (int64, api.Errno) {
	w, is := m.nice(e.N)
	switch {
	case !is:
		return 0, api.ErrArg
	case !m.anyP(e.Mask):
		return 0, api.ErrMask
	case m.has(func(t *modelTask) bool { return true }) == tasks:
		return 0, api.ErrFull
	}
	t := &modelTask{part: part{w: w}, at: m.taskPlaces.take(), group: e.A, nice: int(e.N), mask: e.Mask, p: m.place(-1, e.Mask)}
	t.v = m.groups[e.A].min[t.p]
	m.tasks = append(m.tasks, t)
	m.stand(t)
	return int64(len(m.tasks) - 1), api.OK
}

func (m *model) anyP(mask uint64) bool {
	for p := range m.c.Ps {
		if mask>>p&1 == 1 {
			return true
		}
	}
	return false
}

func (m *model) eventOfTask(e api.Event, t *modelTask) (int64, api.Errno) {
	switch e.Kind {
	case api.EvWake:
		if t.state != api.Blocked {
			return 0, api.ErrState
		}
		m.carry(t, m.place(t.p, t.mask))
		t.v = max(t.v, m.groups[t.group].min[t.p]-m.c.Credit)
		m.stand(t)
		return int64(t.p), api.OK
	case api.EvNice:
		w, is := m.nice(e.N)
		if !is {
			return 0, api.ErrArg
		}
		t.nice = int(e.N)
		t.weigh(w)
		return 0, api.OK
	}
	if !m.anyP(e.Mask) {
		return 0, api.ErrMask
	}
	t.mask = e.Mask
	if t.on() && t.mask>>t.p&1 == 0 {
		m.leave(t, api.Blocked)
		m.carry(t, m.place(-1, t.mask))
		m.stand(t)
	}
	return 0, api.OK
}

func (m *model) eventOfP(e api.Event, p int) (int64, api.Errno) {
	n, _ := m.runs(p)
	switch {
	case e.Kind == api.EvTick:
		return m.tick(e)
	case e.Kind == api.EvPull:
		return m.pull(p)
	case n < 0:
		return 0, api.ErrState
	case e.Kind == api.EvBlock:
		m.leave(m.tasks[n], api.Blocked)
	case e.Kind == api.EvExit:
		m.leave(m.tasks[n], api.Dead)
		m.taskPlaces.freed = append(m.taskPlaces.freed, m.tasks[n].at)
	case e.Kind == api.EvYield:
		n = m.yield(p)
	}
	return int64(n), api.OK
}

func (m *model) tick(e api.Event) (int64, api.Errno) {
	if e.N < 0 || e.N > m.c.Tick {
		return 0, api.ErrTick
	}
	ns, k := uint64(e.N), &m.clocks[e.A]
	n, _ := m.runs(e.A)
	if n < 0 {
		k.idle += ns
		return -1, api.OK
	}
	t := m.tasks[n]
	t.ns += e.N
	m.charge(t, e)
	k.ran += ns
	k.busy += ns
	slice := m.c.Latency
	if load := m.load(0, e.A); load > t.w {
		slice = max(1, slice*t.w/load)
	}
	if k.ran >= slice {
		m.yield(e.A)
		k.begin(-1)
	}
	return int64(n), api.OK
}

// charge lets a task, and each group above it, go on by a tick.
func (m *model) charge(t *modelTask, e api.Event) {
	p, ns := e.A, uint64(e.N)
	t.charge(ns)
	for _, n := range m.way(t.group) {
		g := m.groups[n]
		g.ns += e.N
		if n > 0 {
			g.own[p].charge(ns)
		}
		m.rise(n, p)
		if g.quota > 0 {
			g.spent += e.N
			g.local[p] -= e.N
			g.ensure(p)
		}
	}
}

func (m *model) pull(p int) (int64, api.Errno) {
	loads, from := m.loads(), -1
	for q, load := range loads {
		if q != p && (from < 0 || load > loads[from]) {
			from = q
		}
	}
	if from < 0 || loads[from] <= loads[p] {
		return 0, api.ErrNone
	}
	n := m.candidate(from, p, loads[from]-loads[p])
	if n < 0 {
		return 0, api.ErrNone
	}
	t := m.tasks[n]
	m.leave(t, api.Blocked)
	m.carry(t, p)
	m.stand(t)
	return int64(n), api.OK
}

// candidate is the heaviest one, of half the gap at most; else the lightest one; of several alike the one that came first; or -1.
func (m *model) candidate(from, to int, gap uint64) int {
	var may []int
	now, _ := m.runs(from)
	for n, t := range m.tasks {
		if t.on() && t.p == from && n != now && t.mask>>to&1 == 1 && t.w < gap {
			may = append(may, n)
		}
	}
	if len(may) == 0 {
		return -1
	}
	slices.SortStableFunc(may, func(a, b int) int { return int(m.tasks[b].w) - int(m.tasks[a].w) })
	for _, n := range may {
		if 2*m.tasks[n].w <= gap {
			return n
		}
	}
	least := m.tasks[may[len(may)-1]].w
	return may[slices.IndexFunc(may, func(n int) bool { return m.tasks[n].w == least })]
}

// What it tells.

// running are the tasks that run, by Ps.
func (m *model) running() []int {
	var out []int
	for p := range m.c.Ps {
		n, _ := m.runs(p)
		out = append(out, n)
	}
	return out
}

func (m *model) taskStat(n int, running []int) sched.TaskStat {
	t := m.task(n)
	switch {
	case t == nil && n >= 0 && n < len(m.tasks):
		return sched.TaskStat{State: api.Dead, Ns: m.tasks[n].ns}
	case t == nil:
		return sched.TaskStat{State: api.Dead}
	}
	state := t.state
	if running[t.p] == n {
		state = api.Running
	}
	return sched.TaskStat{State: state, P: t.p, Group: t.group, Nice: t.nice, Weight: t.w, Mask: t.mask, Ns: t.ns}
}

func (m *model) behind(n int) behind {
	t := m.task(n)
	if t == nil || !t.on() {
		return behind{}
	}
	return behind{t.v - m.groups[t.group].min[t.p], true}
}

func (m *model) groupStat(n int) sched.GroupStat {
	g := m.group(n)
	switch {
	case g == nil && n >= 0 && n < len(m.groups):
		return sched.GroupStat{Ns: m.groups[n].ns}
	case g == nil:
		return sched.GroupStat{}
	}
	s := sched.GroupStat{There: true, Parent: g.up, Shares: g.shares, Ns: g.ns, Quota: g.quota, Pool: g.pool, Spent: g.spent}
	for _, p := range g.line {
		s.Stopped |= 1 << p
	}
	return s
}
