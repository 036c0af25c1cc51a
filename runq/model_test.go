package runq_test

import (
	"math/big"
	"slices"
	"testing"

	"dole/api"
	"dole/runq"
)

// model is a queue by the chapter's words alone: a list without an order, each thing asked anew by going through all of it, sums without an end. It calls none of the program's layers.
type model struct {
	ents    []api.Ent
	current int
	min     int64
	flag    bool
}

func newModel() *model { return &model{current: -1} }

func (m *model) at(id int) int {
	return slices.IndexFunc(m.ents, func(e api.Ent) bool { return e.Id == id })
}

func weighs(w uint64) bool { return 2 <= w && w <= 262144 }

// sum is a and b together, held to int64's ends, and whether it had to be.
func sum(a, b int64) (int64, bool) {
	z := new(big.Int).Add(big.NewInt(a), big.NewInt(b))
	if z.IsInt64() {
		return z.Int64(), false
	}
	if z.Sign() < 0 {
		return least, true
	}
	return greatest, true
}

// together is v and a gran, which counts as 0 to 2^40.
func together(v, gran int64) int64 {
	n, _ := sum(v, min(max(gran, 0), 1<<40))
	return n
}

func (m *model) raise() {
	if len(m.ents) == 0 {
		return
	}
	low := m.ents[0].V
	for _, e := range m.ents {
		low = min(low, e.V)
	}
	m.min = max(m.min, low)
}

func (m *model) put(e api.Ent) api.Errno {
	switch {
	case e.Id < 0:
		return api.ErrArg
	case !weighs(e.Weight):
		return api.ErrWeight
	case e.Rem >= e.Weight:
		return api.ErrArg
	case m.at(e.Id) >= 0:
		return api.ErrBusy
	case len(m.ents) >= 128:
		return api.ErrFull
	}
	m.ents = append(m.ents, e)
	m.raise()
	return api.OK
}

func (m *model) drop(id int) (api.Ent, api.Errno) {
	i := m.at(id)
	if i < 0 {
		return api.Ent{}, api.ErrNone
	}
	e := m.ents[i]
	m.ents = slices.Delete(m.ents, i, i+1)
	if m.current == id {
		m.current = -1
	}
	m.raise()
	return e, api.OK
}

func (m *model) weigh(id int, w uint64) api.Errno {
	i := m.at(id)
	if i < 0 {
		return api.ErrNone
	}
	if !weighs(w) {
		return api.ErrWeight
	}
	// Both are below 2^19: the product fits.
	m.ents[i].Rem = m.ents[i].Rem * w / m.ents[i].Weight
	m.ents[i].Weight = w
	m.raise()
	return api.OK
}

func (m *model) charge(ns uint64) api.Errno {
	i := m.at(m.current)
	if i < 0 {
		return api.ErrState
	}
	if ns > 1000000000 {
		return api.ErrTick
	}
	e := &m.ents[i]
	parts := e.Rem + 1024*ns
	v, over := sum(e.V, int64(parts/e.Weight))
	e.V, e.Rem = v, parts%e.Weight
	m.flag = m.flag || over
	m.raise()
	return api.OK
}

// first is the first one of all but the one with an Id; -1: there is none.
func (m *model) first(but int) int {
	best := -1
	for i, e := range m.ents {
		if e.Id == but {
			continue
		}
		if best < 0 || e.V < m.ents[best].V || e.V == m.ents[best].V && e.Id < m.ents[best].Id {
			best = i
		}
	}
	return best
}

func (m *model) pick(gran int64) int {
	if len(m.ents) == 0 {
		return -1
	}
	if i := m.at(m.current); i >= 0 {
		other := m.first(m.current)
		if other < 0 || m.ents[i].V <= together(m.ents[other].V, gran) {
			return m.current
		}
	}
	m.current = m.ents[m.first(-1)].Id
	return m.current
}

func (m *model) yield(gran int64) int {
	i, other := m.at(m.current), m.first(m.current)
	if i >= 0 && other >= 0 && m.ents[other].V <= together(m.ents[i].V, gran) {
		m.current = m.ents[other].Id
		return m.current
	}
	return m.pick(gran)
}

func (m *model) look() view {
	v := view{current: m.current, min: m.min, flag: m.flag, ents: slices.Clone(m.ents)}
	for _, e := range m.ents {
		v.load += e.Weight
	}
	slices.SortFunc(v.ents, func(a, b api.Ent) int {
		if a.V < b.V || a.V == b.V && a.Id < b.Id {
			return -1
		}
		return 1
	})
	return v
}

// pair is a queue and the model of it, which are asked the same, so that each answer and all that is left is held against the other.
type pair struct {
	t *testing.T
	q *runq.Queue
	m *model
}

func newPair(t *testing.T) pair { return pair{t, runq.New(), newModel()} }

func (p pair) same(what string, got, want any) {
	p.t.Helper()
	if got != want {
		p.t.Fatalf("%s: %v; wanted %v; there were %v", what, got, want, p.m.ents)
	}
}

func (p pair) left(what string) {
	p.t.Helper()
	holds(p.t, what, p.q, p.m.look())
}

func (p pair) put(e api.Ent) api.Errno {
	p.t.Helper()
	err := p.m.put(e)
	p.same("Put", p.q.Put(e), err)
	return err
}

func (p pair) drop(id int) (api.Ent, api.Errno) {
	p.t.Helper()
	e, err := p.m.drop(id)
	got, gotErr := p.q.Drop(id)
	p.same("Drop's error", gotErr, err)
	p.same("Drop", got, e)
	return e, err
}

func (p pair) weigh(id int, w uint64) {
	p.t.Helper()
	p.same("Weigh", p.q.Weigh(id, w), p.m.weigh(id, w))
}

func (p pair) charge(ns uint64) {
	p.t.Helper()
	p.same("Charge", p.q.Charge(ns), p.m.charge(ns))
}

func (p pair) pick(gran int64) {
	p.t.Helper()
	p.same("Pick", p.q.Pick(gran), p.m.pick(gran))
}

func (p pair) yield(gran int64) {
	p.t.Helper()
	p.same("Yield", p.q.Yield(gran), p.m.yield(gran))
}

// steps are calls of all kinds on three entities: near one another, at one V, of several weights, with and without an error.
func steps() []func(p pair) {
	return []func(p pair){
		func(p pair) { p.put(ent(0, 1024, 4, 0)) },
		func(p pair) { p.put(ent(1, 2048, 4, 1000)) },
		func(p pair) { p.put(ent(2, 512, 2, 511)) },
		func(p pair) { p.put(ent(1, 1024, -3, 1024)) },
		func(p pair) { p.put(ent(2, 4, greatest-300, 3)) },
		func(p pair) { p.drop(0) },
		func(p pair) { p.drop(1) },
		func(p pair) { p.drop(2) },
		func(p pair) { p.weigh(1, 3) },
		func(p pair) { p.weigh(2, 262144) },
		func(p pair) { p.charge(0) },
		func(p pair) { p.charge(1) },
		func(p pair) { p.charge(3) },
		func(p pair) { p.pick(0) },
		func(p pair) { p.pick(2) },
		func(p pair) { p.yield(0) },
		func(p pair) { p.yield(2) },
	}
}

// TestAllWays holds P8.1 to P8.4 in each order of four of these steps, from several beginnings.
func TestAllWays(t *testing.T) {
	all := steps()
	for _, begin := range [][]int{{}, {0, 1, 13}, {1, 2, 13, 12}, {0, 1, 2}, {4, 0, 16}} {
		ways := 1
		for range 4 {
			ways *= len(all)
		}
		for way := range ways {
			p := newPair(t)
			for _, i := range begin {
				all[i](p)
			}
			for range 4 {
				all[way%len(all)](p)
				way /= len(all)
			}
			p.left("a way")
		}
	}
}

// chance is numbers without a pattern, the same ones each time.
type chance uint64

func newChance() *chance {
	c := chance(88172645463325252)
	return &c
}

func (c *chance) next() uint64 {
	x := uint64(*c)
	x ^= x << 13
	x ^= x >> 7
	x ^= x << 17
	*c = chance(x)
	return x
}

// below is one of 0 to n, n left out.
func (c *chance) below(n int) int { return int(c.next() >> 33 % uint64(n)) }

// sized is one of any size.
func (c *chance) sized() int64 { return int64(c.next()) >> (c.next() >> 32 % 64) }

func (c *chance) weight() uint64 {
	edges := []uint64{0, 1, 2, 3, 1023, 1024, 1025, 262143, 262144, 262145, 1 << 32, 1 << 63}
	if c.below(4) == 0 {
		return edges[c.below(len(edges))]
	}
	return 2 + c.next()>>32%262143
}

func (c *chance) rem(w uint64) uint64 {
	switch c.below(8) {
	case 0:
		return w
	case 1:
		return w - 1
	case 2:
		return w + 1
	case 3:
		return c.next()
	}
	if w == 0 {
		return 0
	}
	return c.next() >> 1 % w
}

func (c *chance) gran() int64 {
	edges := []int64{least, -1, 0, 1, 1<<40 - 1, 1 << 40, 1<<40 + 1, greatest}
	if c.below(3) == 0 {
		return edges[c.below(len(edges))]
	}
	return c.sized()
}

func (c *chance) ns() uint64 {
	edges := []uint64{0, 1, 1000000000 - 1, 1000000000, 1000000000 + 1, 1 << 63, 1<<64 - 1}
	if c.below(3) == 0 {
		return edges[c.below(len(edges))]
	}
	return c.next() >> 34
}

// TestLongWays holds P8.1 to P8.4 after each call along ways without a pattern: queues of few and of many entities, that fill up and run empty, near one another and far apart, with what may not be among it.
func TestLongWays(t *testing.T) {
	c := newChance()
	for _, ids := range []int{1, 2, 3, 8, 40, 150} {
		for _, near := range []bool{true, false} {
			p := newPair(t)
			for n := range 6000 {
				// Now more come, now more go.
				comes := 3
				if n/(4*ids+20)%2 == 0 {
					comes = 9
				}
				p.step(c, ids, comes, near)
				p.left("a long way")
			}
		}
	}
}

func (p pair) step(c *chance, ids, comes int, near bool) {
	id := c.below(ids+1) - 1
	v := c.sized()
	if near {
		v = p.m.min + int64(c.below(2000)) - 500
	}
	switch n := c.below(comes + 12); {
	case n < comes:
		w := c.weight()
		p.put(ent(id, w, v, c.rem(w)))
	case n < comes+5:
		p.drop(id)
	case n < comes+6:
		p.weigh(id, c.weight())
	case n < comes+8:
		p.charge(c.ns())
	case n < comes+11:
		p.pick(c.gran())
	default:
		p.yield(c.gran())
	}
}
