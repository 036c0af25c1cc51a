package hier_test

import (
	"math/big"
	"slices"
	"testing"

	"dole/api"
	"dole/hier"
	"dole/runq"
)

// model is the queues by the chapter's words alone: it goes from the root down, where the program goes up, and behind each call it lets all groups stand where they should, the deepest first.
type model struct {
	credit, gran int64
	kids         map[int][]int // of those that are there
	queues       map[int]*runq.Queue
	own          map[int]api.Ent // of those that stand in no queue
	stopped      map[int]bool
}

func newModel(credit, gran int64) *model {
	return &model{credit, gran, map[int][]int{0: nil}, map[int]*runq.Queue{0: runq.New()}, map[int]api.Ent{}, map[int]bool{}}
}

func (m *model) there(g int) bool {
	_, is := m.kids[g]
	return is
}

// way is all groups from one down to another, both among them; none, if there is no such way.
func (m *model) way(from, to int) []int {
	if from == to {
		return []int{to}
	}
	for _, k := range m.kids[from] {
		if rest := m.way(k, to); rest != nil {
			return append([]int{from}, rest...)
		}
	}
	return nil
}

// above is the one within which a group is.
func (m *model) above(g int) int {
	way := m.way(0, g)
	return way[len(way)-2]
}

func (m *model) depth(g int) int { return len(m.way(0, g)) - 1 }

// deepest is the last one of the greatest depth.
func (m *model) deepest() int {
	out := 0
	for g := range groups {
		if m.there(g) && m.depth(g) >= m.depth(out) {
			out = g
		}
	}
	return out
}

func (m *model) below(g int) []int {
	out := []int{g}
	for _, k := range m.kids[g] {
		out = append(out, m.below(k)...)
	}
	return out
}

func (m *model) somebody(g int) bool { return len(m.queues[g].Ents()) > 0 }

// tasksOf are those in a group's queue, if it is there.
func (m *model) tasksOf(g int) []int {
	var out []int
	for _, e := range m.queues[g].Ents() {
		if e.Id%2 == 0 {
			out = append(out, e.Id/2)
		}
	}
	return out
}

// held is a number without an end, held to int64's ends.
func held(z *big.Int) int64 {
	switch {
	case z.IsInt64():
		return z.Int64()
	case z.Sign() < 0:
		return least
	}
	return greatest
}

func less(a, b int64) int64 { return held(new(big.Int).Sub(big.NewInt(a), big.NewInt(b))) }

func plus(a, b int64) int64 { return held(new(big.Int).Add(big.NewInt(a), big.NewInt(b))) }

// settle lets all below a group, and then all within it, stand where they should.
func (m *model) settle(g int) {
	q := m.queues[g]
	for _, k := range m.kids[g] {
		m.settle(k)
		own, off := m.own[k]
		should := m.somebody(k) && !m.stopped[k]
		if should && off {
			own.V = max(own.V, less(q.Min(), min(max(m.credit, 0), top)))
			q.Put(own)
			delete(m.own, k)
		}
		if !should && !off {
			m.own[k], _ = q.Drop(2*k + 1)
		}
	}
}

func (m *model) link(g, parent int) api.Errno {
	switch {
	case g < 1 || g > 31 || !m.there(parent):
		return api.ErrArg
	case m.there(g):
		return api.ErrBusy
	case m.depth(parent) == deep:
		return api.ErrDeep
	}
	m.kids[parent] = append(m.kids[parent], g)
	m.kids[g], m.queues[g], m.own[g], m.stopped[g] = nil, runq.New(), unit(2*g+1, 0), false
	return api.OK
}

func (m *model) cut(g int) {
	up := m.above(g)
	m.kids[up] = slices.DeleteFunc(m.kids[up], func(k int) bool { return k == g })
}

func (m *model) unlink(g int) api.Errno {
	switch {
	case g == 0 || !m.there(g):
		return api.ErrArg
	case m.somebody(g) || len(m.kids[g]) > 0:
		return api.ErrBusy
	}
	m.cut(g)
	delete(m.kids, g)
	delete(m.queues, g)
	delete(m.own, g)
	delete(m.stopped, g)
	return api.OK
}

func (m *model) move(g, parent int) api.Errno {
	if g == 0 || !m.there(g) || !m.there(parent) {
		return api.ErrArg
	}
	if m.way(g, parent) != nil {
		return api.ErrLoop
	}
	if slices.ContainsFunc(m.below(g), m.somebody) {
		return api.ErrBusy
	}
	for _, x := range m.below(g) {
		if m.depth(parent)+len(m.way(g, x)) > deep {
			return api.ErrDeep
		}
	}
	own := m.own[g]
	own.V = plus(less(own.V, m.queues[m.above(g)].Min()), m.queues[parent].Min())
	m.own[g] = own
	m.cut(g)
	m.kids[parent] = append(m.kids[parent], g)
	return api.OK
}

func (m *model) put(g int, e api.Ent) api.Errno {
	if !m.there(g) || e.Id < 0 || e.Id > 63 {
		return api.ErrArg
	}
	e.Id *= 2
	err := m.queues[g].Put(e)
	m.settle(0)
	return err
}

func (m *model) drop(g, task int) (api.Ent, api.Errno) {
	if !m.there(g) || task < 0 || task > 63 {
		return api.Ent{}, api.ErrArg
	}
	e, err := m.queues[g].Drop(2 * task)
	m.settle(0)
	e.Id /= 2
	return e, err
}

func (m *model) nice(g, task int, w uint64) api.Errno {
	if !m.there(g) || task < 0 || task > 63 {
		return api.ErrArg
	}
	return m.queues[g].Weigh(2*task, w)
}

func (m *model) weigh(g int, w uint64) api.Errno {
	if g == 0 || !m.there(g) {
		return api.ErrArg
	}
	if w < 2 || w > 262144 {
		return api.ErrWeight
	}
	own, off := m.own[g]
	if !off {
		return m.queues[m.above(g)].Weigh(2*g+1, w)
	}
	// Both are below 2^19: the product fits.
	own.Rem, own.Weight = own.Rem*w/own.Weight, w
	m.own[g] = own
	return api.OK
}

func (m *model) stop(g int, is bool) api.Errno {
	if g == 0 || !m.there(g) {
		return api.ErrArg
	}
	m.stopped[g] = is
	m.settle(0)
	return api.OK
}

// down is the task to which the way from a group's queue comes, and that queue; none, where one of them tells none.
func (m *model) down(g int, ask func(q *runq.Queue) int) (int, *runq.Queue) {
	q := m.queues[g]
	switch id := ask(q); {
	case id < 0:
		return -1, nil
	case id%2 == 0:
		return id / 2, q
	default:
		return m.down((id-1)/2, ask)
	}
}

func (m *model) pick() int {
	task, _ := m.down(0, func(q *runq.Queue) int { return q.Pick(m.gran) })
	return task
}

func (m *model) running() int {
	task, _ := m.down(0, (*runq.Queue).Current)
	return task
}

func (m *model) yield() int {
	if task, last := m.down(0, (*runq.Queue).Current); task >= 0 {
		last.Yield(m.gran)
	}
	return m.pick()
}

func (m *model) charge(ns uint64) api.Errno {
	if m.running() < 0 {
		return api.ErrState
	}
	if ns > longest {
		return api.ErrTick
	}
	m.down(0, func(q *runq.Queue) int {
		q.Charge(ns)
		return q.Current()
	})
	return api.OK
}

func (m *model) look() view {
	v := view{running: m.running()}
	for g := range groups {
		if !m.there(g) {
			v.all = append(v.all, seen{})
			continue
		}
		q := m.queues[g]
		_, off := m.own[g]
		v.all = append(v.all, seen{q.Ents(), q.Min(), q.Load(), g > 0 && !off, m.stopped[g]})
		v.flag = v.flag || q.Flag()
	}
	return v
}

// answer is a call, and the error with which it ended.
type answer struct {
	call string
	err  api.Errno
}

// both is a Hier beside its model, which are asked the same; met counts each answer.
type both struct {
	t   *testing.T
	h   *hier.Hier
	m   *model
	met map[answer]int
}

func newBoth(t *testing.T, credit, gran int64, met map[answer]int) *both {
	return &both{t, hier.New(credit, gran), newModel(credit, gran), met}
}

// often holds a test to have met each of these so often, so that it is not sound for want of any.
func often(t *testing.T, met map[answer]int, least int, want ...answer) {
	t.Helper()
	for _, a := range want {
		if met[a] < least {
			t.Errorf("%v: but %d times", a, met[a])
		}
	}
}

func (b *both) left(what string) {
	b.t.Helper()
	same(b.t, what, look(b.h), b.m.look())
}

func (b *both) ended(call string, got, want api.Errno) {
	b.t.Helper()
	errno(b.t, call, got, want)
	b.met[answer{call, want}]++
}

func (b *both) link(g, parent int) {
	b.t.Helper()
	b.ended("Link", b.h.Link(g, parent), b.m.link(g, parent))
}

func (b *both) unlink(g int) {
	b.t.Helper()
	b.ended("Unlink", b.h.Unlink(g), b.m.unlink(g))
}

func (b *both) move(g, parent int) {
	b.t.Helper()
	b.ended("Move", b.h.Move(g, parent), b.m.move(g, parent))
}

func (b *both) put(g int, e api.Ent) {
	b.t.Helper()
	b.ended("Put", b.h.Put(g, e), b.m.put(g, e))
}

func (b *both) drop(g, task int) {
	b.t.Helper()
	e, err := b.h.Drop(g, task)
	want, wantErr := b.m.drop(g, task)
	b.ended("Drop", err, wantErr)
	if e != want {
		b.t.Fatalf("Drop(%d, %d): %v; wanted %v", g, task, e, want)
	}
}

func (b *both) nice(g, task int, w uint64) {
	b.t.Helper()
	b.ended("Nice", b.h.Nice(g, task, w), b.m.nice(g, task, w))
}

func (b *both) weigh(g int, w uint64) {
	b.t.Helper()
	b.ended("Weigh", b.h.Weigh(g, w), b.m.weigh(g, w))
}

func (b *both) stop(g int, is bool) {
	b.t.Helper()
	b.ended("Stop", b.h.Stop(g, is), b.m.stop(g, is))
}

func (b *both) charge(ns uint64) {
	b.t.Helper()
	b.ended("Charge", b.h.Charge(ns), b.m.charge(ns))
}

func (b *both) pick() {
	b.t.Helper()
	number(b.t, "Pick", b.h.Pick(), b.m.pick())
}

func (b *both) yield() {
	b.t.Helper()
	number(b.t, "Yield", b.h.Yield(), b.m.yield())
}

// steps are calls of all kinds on three groups and four tasks, near one another, with and without an error.
func steps() []func(b *both) {
	return []func(b *both){
		func(b *both) { b.link(1, 0) },
		func(b *both) { b.link(2, 1) },
		func(b *both) { b.move(2, 0) },
		func(b *both) { b.move(2, 1) },
		func(b *both) { b.move(1, 2) },
		func(b *both) { b.unlink(1) },
		func(b *both) { b.unlink(2) },
		func(b *both) { b.put(0, unit(0, 2)) },
		func(b *both) { b.put(1, unit(1, 3)) },
		func(b *both) { b.put(2, ent(2, 700, 0, 300)) },
		func(b *both) { b.put(2, unit(3, 1)) },
		func(b *both) { b.drop(0, 0) },
		func(b *both) { b.drop(1, 1) },
		func(b *both) { b.drop(2, 2) },
		func(b *both) { b.nice(2, 2, 70) },
		func(b *both) { b.weigh(1, 300) },
		func(b *both) { b.weigh(2, 2000) },
		func(b *both) { b.stop(1, true) },
		func(b *both) { b.stop(1, false) },
		func(b *both) { b.stop(2, true) },
		func(b *both) { b.stop(2, false) },
		func(b *both) { b.pick() },
		func(b *both) { b.yield() },
		func(b *both) { b.charge(2) },
	}
}

// TestAllWays holds P20.1 to P20.4 in each order of three of these steps, from several beginnings.
func TestAllWays(t *testing.T) {
	all, met := steps(), map[answer]int{}
	for _, begin := range [][]int{
		{}, {0, 1}, {0, 1, 5, 6, 0, 2}, {0, 1, 7, 8, 9}, {0, 1, 9, 10, 21}, {0, 1, 9, 10, 21, 23, 7}, {0, 1, 19, 9, 8, 21},
		{0, 1, 2, 7, 8, 9, 22, 23, 22}, {0, 1, 2, 4, 9, 23, 21, 23, 13}, {0, 1, 15, 10, 9, 22, 23, 17, 13, 14},
	} {
		for way := range len(all) * len(all) * len(all) {
			b := newBoth(t, 1, 1, met)
			for _, i := range begin {
				all[i](b)
			}
			for range 3 {
				all[way%len(all)](b)
				way /= len(all)
			}
			b.left("a way")
		}
	}
	often(t, met, 30,
		answer{"Link", api.OK}, answer{"Link", api.ErrArg}, answer{"Link", api.ErrBusy},
		answer{"Unlink", api.OK}, answer{"Unlink", api.ErrArg}, answer{"Unlink", api.ErrBusy},
		answer{"Move", api.OK}, answer{"Move", api.ErrArg}, answer{"Move", api.ErrLoop}, answer{"Move", api.ErrBusy},
		answer{"Put", api.OK}, answer{"Put", api.ErrArg}, answer{"Put", api.ErrBusy},
		answer{"Drop", api.OK}, answer{"Drop", api.ErrArg}, answer{"Drop", api.ErrNone},
		answer{"Nice", api.OK}, answer{"Nice", api.ErrNone}, answer{"Weigh", api.OK}, answer{"Weigh", api.ErrArg},
		answer{"Stop", api.OK}, answer{"Stop", api.ErrArg}, answer{"Charge", api.OK}, answer{"Charge", api.ErrState})
}

// chance is numbers without a pattern, the same ones each time.
type chance uint64

func newChance(seed int) *chance {
	c := chance(88172645463325252 + uint64(seed)*2654435761)
	return &c
}

func (c *chance) next() uint64 {
	x := uint64(*c)
	x ^= x << 13
	x ^= x >> 7
	x ^= x << 17
	*c = chance(x)
	return x
}

// below is one of 0 to n, n left out.
func (c *chance) below(n int) int { return int(c.next() >> 33 % uint64(n)) }

func (c *chance) of(l ...int) int { return l[c.below(len(l))] }

func (c *chance) weight() uint64 {
	if c.below(8) == 0 {
		return []uint64{0, 1, 2, 3, 262143, 262144, 262145, 1 << 40}[c.below(8)]
	}
	return 2 + c.next()>>20%(1<<(1+c.below(17)))
}

func (c *chance) v() int64 {
	switch c.below(24) {
	case 0:
		return int64(c.next())
	case 1:
		return greatest - int64(c.below(3000))
	}
	return int64(c.below(4000)) - 1000
}

func (c *chance) ns() uint64 {
	switch c.below(16) {
	case 0:
		return c.next()
	case 1:
		return longest + uint64(c.below(3)) - 1
	}
	return uint64(c.below(1000))
}

// group is mostly one of the first ones, which are there more often, and now and then none.
func (c *chance) group(few int) int {
	if c.below(20) == 0 {
		return c.of(-1, 0, 31, 32, 1<<62)
	}
	return c.below(few)
}

func (c *chance) task(few int) int {
	if c.below(20) == 0 {
		return c.of(-1, 62, 63, 64, -1<<63)
	}
	return c.below(few)
}

// step does one thing, without a pattern: now rather what fills, now rather what empties.
func (b *both) step(c *chance, few int, fills bool) {
	b.t.Helper()
	g, other, task, w := c.group(few), c.group(few), c.task(2*few), c.weight()
	if c.below(2) == 0 {
		// So groups come to be deep.
		other = b.m.deepest()
	}
	n := c.below(40)
	if there := b.m.tasksOf(g); !fills && len(there) > 0 {
		task = there[c.below(len(there))]
	}
	if !fills && n < 12 {
		n = c.of(2, 3, 7, 8, 9)
	}
	switch {
	case n < 2:
		b.link(g, other)
	case n < 3:
		b.unlink(g)
	case n < 5:
		b.move(g, other)
	case n < 9:
		if fills {
			b.put(g, ent(task, w, c.v(), c.next()%(w+1+w/8)))
			return
		}
		b.drop(g, task)
	case n < 12:
		b.drop(g, task)
	case n < 14:
		b.nice(g, task, w)
	case n < 16:
		b.weigh(g, w)
	case n < 19:
		b.stop(g, c.below(3) == 0)
	case n < 27:
		b.pick()
	case n < 30:
		b.yield()
	default:
		b.charge(c.ns())
	}
}

// TestLongWays holds P20.1 to P20.4 along ways without a pattern, of few groups and of many, with credits and grans of all kinds.
func TestLongWays(t *testing.T) {
	met := map[answer]int{}
	for seed := range 40 {
		c := newChance(seed)
		few := []int{3, 5, 12, 32}[seed%4]
		credit := []int64{0, 100, 3000, top + 5, least}[seed%5]
		gran := []int64{0, 50, 2000, greatest, -1, top}[seed%6]
		b := newBoth(t, credit, gran, met)
		for k := range 4000 {
			b.step(c, few, k/200%2 == 0)
			b.left("a long way")
		}
	}
	often(t, met, 20,
		answer{"Link", api.OK}, answer{"Link", api.ErrArg}, answer{"Link", api.ErrBusy}, answer{"Link", api.ErrDeep},
		answer{"Unlink", api.OK}, answer{"Unlink", api.ErrArg}, answer{"Unlink", api.ErrBusy},
		answer{"Move", api.OK}, answer{"Move", api.ErrArg}, answer{"Move", api.ErrLoop}, answer{"Move", api.ErrBusy}, answer{"Move", api.ErrDeep},
		answer{"Put", api.OK}, answer{"Put", api.ErrArg}, answer{"Put", api.ErrBusy}, answer{"Put", api.ErrWeight},
		answer{"Drop", api.OK}, answer{"Drop", api.ErrArg}, answer{"Drop", api.ErrNone},
		answer{"Nice", api.OK}, answer{"Nice", api.ErrArg}, answer{"Nice", api.ErrNone}, answer{"Nice", api.ErrWeight},
		answer{"Weigh", api.OK}, answer{"Weigh", api.ErrArg}, answer{"Weigh", api.ErrWeight},
		answer{"Stop", api.OK}, answer{"Stop", api.ErrArg},
		answer{"Charge", api.OK}, answer{"Charge", api.ErrState}, answer{"Charge", api.ErrTick})
}

// TestSameAgain holds R4: the same calls have the same answers, whatever others were asked ahead.
func TestSameAgain(t *testing.T) {
	run := func() []view {
		c, b := newChance(7), newBoth(t, 30, 10, map[answer]int{})
		var out []view
		for range 1000 {
			b.step(c, 6, c.below(3) > 0)
			out = append(out, look(b.h))
		}
		return out
	}
	first := run()
	if !slices.EqualFunc(first, run(), view.is) {
		t.Fatal("the same calls had other answers")
	}
}
