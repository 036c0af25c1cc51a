package sched_test

import (
	"slices"

	"dole/api"
	"dole/sched"
)

// The model is a scheduler by the chapters' words alone, which calls no layer: what a task or a group has in a queue stands at it, each queue is made anew when it is asked for, and each load too. No number comes near to int64's ends here.

// part is what one has in a queue.
type part struct {
	w   uint64
	v   int64
	rem uint64
}

type modelTask struct {
	part
	state, at, group, nice, p int
	mask                      uint64
	left                      int64 // the Min of the queue that it left
	ns                        int64
}

func (t *modelTask) on() bool { return t.state == api.Runnable }

type modelGroup struct {
	there           bool
	at, up          int
	shares          uint64
	quota, slice    int64
	pool, spent, ns int64
	local           []int64
	line            []int // of the Ps on which it is stopped
	own             []part
	in              []bool  // does it stand in the queue of the one within which it is?
	min             []int64 // of its own queue, on each P, as now, which is the current Id there
	now             []int
}

type modelClock struct {
	task            int
	ran, busy, idle uint64
}

type model struct {
	c            sched.Config
	tasks        []*modelTask  // all that there ever were
	groups       []*modelGroup // likewise
	taskPlaces   places
	groupPlaces  places
	clocks       []modelClock
	stops, waits int // how often a group was stopped, and how often the first of a line was not let go
}

// places are those of a pool.
type places struct {
	freed []int
	next  int
}

func (l *places) take() int {
	if n := len(l.freed); n > 0 {
		at := l.freed[n-1]
		l.freed = l.freed[:n-1]
		return at
	}
	l.next++
	return l.next - 1
}

func newModel(c sched.Config) *model {
	m := &model{c: c}
	for range c.Ps {
		m.clocks = append(m.clocks, modelClock{task: -1})
	}
	m.addGroup(-1, 0)
	return m
}

func (m *model) addGroup(up int, w uint64) {
	n := m.c.Ps
	g := &modelGroup{there: true, at: m.groupPlaces.take(), up: up, shares: w, local: make([]int64, n), own: make([]part, n), in: make([]bool, n), min: make([]int64, n), now: make([]int, n)}
	for p := range n {
		g.own[p].w, g.now[p] = unit, -1
	}
	m.groups = append(m.groups, g)
}

// group and task are nil of one that isn't there.
func (m *model) group(n int) *modelGroup {
	if n < 0 || n >= len(m.groups) || !m.groups[n].there {
		return nil
	}
	return m.groups[n]
}

func (m *model) task(n int) *modelTask {
	if n < 0 || n >= len(m.tasks) || m.tasks[n].state == api.Dead {
		return nil
	}
	return m.tasks[n]
}

// way is the numbers from a group's up to the root's.
func (m *model) way(n int) []int {
	if n == 0 {
		return []int{0}
	}
	return append([]int{n}, m.way(m.groups[n].up)...)
}

func (m *model) depth(n int) int { return len(m.way(n)) - 1 }

func (m *model) under(n, top int) bool {
	for n != top && n > 0 {
		n = m.groups[n].up
	}
	return n == top
}

// below are the numbers of all groups below one.
func (m *model) below(top int) []int {
	var out []int
	for n, g := range m.groups {
		if g.there && m.under(n, top) {
			out = append(out, n)
		}
	}
	return out
}

// rising are the numbers of all groups but the root, by their places.
func (m *model) rising() []int {
	var out []int
	for at := 1; at < groups; at++ {
		for n, g := range m.groups {
			if g.there && g.at == at {
				out = append(out, n)
			}
		}
	}
	return out
}

// has tells of how many tasks something is so.
func (m *model) has(is func(t *modelTask) bool) int {
	many := 0
	for _, t := range m.tasks {
		if t.state != api.Dead && is(t) {
			many++
		}
	}
	return many
}

// load is that of a group on a P; the root's is the P's.
func (m *model) load(g, p int) uint64 {
	var sum uint64
	for _, t := range m.tasks {
		if t.on() && t.p == p && m.under(t.group, g) {
			sum += t.w
		}
	}
	return sum
}

func (m *model) loads() []uint64 {
	var out []uint64
	for p := range m.c.Ps {
		out = append(out, m.load(0, p))
	}
	return out
}

// member is one that stands in a queue.
type member struct {
	*part
	id, task, group int // of task and group one is -1
}

// queue is a group's, on a P, in order.
func (m *model) queue(g, p int) []member {
	var out []member
	for n, t := range m.tasks {
		if t.on() && t.p == p && t.group == g {
			out = append(out, member{&t.part, 2 * t.at, n, -1})
		}
	}
	for n, x := range m.groups {
		if x.there && n > 0 && x.up == g && x.in[p] {
			out = append(out, member{&x.own[p], 2*x.at + 1, -1, n})
		}
	}
	slices.SortFunc(out, func(a, b member) int {
		if a.v != b.v {
			return int(min(max(a.v-b.v, -1), 1))
		}
		return a.id - b.id
	})
	return out
}

// rise is what comes behind each change of a queue.
func (m *model) rise(g, p int) {
	if q := m.queue(g, p); len(q) > 0 {
		m.groups[g].min[p] = max(m.groups[g].min[p], q[0].v)
	}
}

// settled lets a group stand where it should on a P, and those above it.
func (m *model) settled(g, p int) {
	x := m.groups[g]
	should := len(m.queue(g, p)) > 0 && !slices.Contains(x.line, p)
	if g == 0 || should == x.in[p] {
		return
	}
	up := m.groups[x.up]
	if should {
		x.own[p].v = max(x.own[p].v, up.min[p]-m.c.Credit)
	} else if up.now[p] == 2*x.at+1 {
		up.now[p] = -1
	}
	x.in[p] = should
	m.rise(x.up, p)
	m.settled(x.up, p)
}

// leave and stand are of a task that leaves its P, or stands on one.
func (m *model) leave(t *modelTask, state int) {
	g := m.groups[t.group]
	t.left = g.min[t.p]
	if g.now[t.p] == 2*t.at {
		g.now[t.p] = -1
	}
	t.state = state
	m.rise(t.group, t.p)
	m.settled(t.group, t.p)
}

func (m *model) stand(t *modelTask) {
	t.state = api.Runnable
	m.rise(t.group, t.p)
	m.settled(t.group, t.p)
}

// carry is what another P makes of a V.
func (m *model) carry(t *modelTask, p int) {
	if p != t.p {
		t.v += m.groups[t.group].min[p] - t.left
		t.p = p
	}
}

// current is a queue's current one, and the first one of the others; a part that is nil: there is none.
func (m *model) current(g, p int) (member, member) {
	var now, other member
	for _, x := range m.queue(g, p) {
		if x.id == m.groups[g].now[p] {
			now = x
		} else if other.part == nil {
			other = x
		}
	}
	return now, other
}

// pick is chapter 20's: the task, or -1.
func (m *model) pick(p int) int {
	for g := 0; ; {
		now, other := m.current(g, p)
		if now.part == nil || other.part != nil && now.v > other.v+m.c.Gran {
			now = other
		}
		if now.part == nil {
			m.groups[g].now[p] = -1
			return -1
		}
		m.groups[g].now[p] = now.id
		if now.group < 0 {
			return now.task
		}
		g = now.group
	}
}

// runs is the task that runs on a P, by the current ones alone, or -1; and the queues on the way to it.
func (m *model) runs(p int) (int, []int) {
	var way []int
	for g := 0; ; {
		way = append(way, g)
		now, _ := m.current(g, p)
		if now.part == nil {
			return -1, nil
		}
		if now.group < 0 {
			return now.task, way
		}
		g = now.group
	}
}

func (m *model) yield(p int) int {
	if n, way := m.runs(p); n >= 0 {
		last := way[len(way)-1]
		if now, other := m.current(last, p); other.part != nil && other.v <= now.v+m.c.Gran {
			m.groups[last].now[p] = other.id
		}
	}
	return m.pick(p)
}

func (x *part) charge(ns uint64) {
	parts := x.rem + 1024*ns
	x.v += int64(parts / x.w)
	x.rem = parts % x.w
}

func (x *part) weigh(w uint64) { x.rem, x.w = x.rem*w/x.w, w }

func (g *modelGroup) ensure(p int) bool {
	if g.local[p] <= 0 {
		got := min(g.pool, g.slice-g.local[p])
		g.pool -= got
		g.local[p] += got
	}
	return g.local[p] > 0
}

func (k *modelClock) begin(task int) {
	if task != k.task {
		k.task, k.ran = task, 0
	}
}

func (m *model) settle() {
	for _, n := range m.rising() {
		m.weigh(n)
	}
	for _, n := range m.rising() {
		m.distribute(n)
	}
	for p := range m.clocks {
		m.choose(p)
	}
}

func (m *model) weigh(n int) {
	var sum uint64
	for p := range m.clocks {
		sum += m.load(n, p)
	}
	g := m.groups[n]
	for p := range m.clocks {
		if here := m.load(n, p); here > 0 {
			g.own[p].weigh(min(max(g.shares*here/sum, lightest), heaviest))
		}
	}
}

func (m *model) distribute(n int) {
	g := m.groups[n]
	if g.quota == 0 {
		return
	}
	for p := range m.clocks {
		if m.load(n, p) == 0 && g.local[p] > 0 {
			g.pool += g.local[p]
			g.local[p] = 0
		}
	}
	for g.pool > 0 && len(g.line) > 0 {
		p := g.line[0]
		g.line = g.line[1:]
		if !g.ensure(p) {
			g.line = append(g.line, p)
			m.waits++
		}
		m.settled(n, p)
	}
}

func (m *model) choose(p int) {
	task := m.pick(p)
	for task >= 0 && m.stop(task, p) {
		task = m.pick(p)
	}
	m.clocks[p].begin(task)
}

// stop stops the first group, from the root down to a task's, that has no time on a P; false: each one has.
func (m *model) stop(task, p int) bool {
	way := m.way(m.tasks[task].group)
	slices.Reverse(way)
	for _, n := range way {
		g := m.groups[n]
		if g.quota == 0 || g.ensure(p) {
			continue
		}
		g.line = append(g.line, p)
		m.settled(n, p)
		m.stops++
		return true
	}
	return false
}

// place is chapter 17's, of a mask that has a P.
func (m *model) place(prev int, mask uint64) int {
	loads := m.loads()
	least, idle := -1, -1
	for p, load := range loads {
		if mask>>p&1 == 0 {
			continue
		}
		if task, _ := m.runs(p); load == 0 && task < 0 && (idle < 0 || p == prev) {
			idle = p
		}
		if least < 0 || load < loads[least] || load == loads[least] && p == prev {
			least = p
		}
	}
	if idle >= 0 {
		return idle
	}
	return least
}

// weights are those of chapter 3.
func (m *model) nice(n int64) (uint64, bool) {
	if n < -20 || n > 19 {
		return 0, false
	}
	above, below := uint64(1024), uint64(1)
	for range max(n, -n) {
		above, below = above*5, below*4
	}
	if n <= 0 {
		return above / below, true
	}
	return 1024 * below / (above / 1024), true
}
