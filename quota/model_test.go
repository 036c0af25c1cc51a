package quota_test

import (
	"testing"

	"dole/api"
	"dole/quota"
)

// Accounts of a model, beside those of the Ps, which are the numbers from 0 on.
const (
	pool    = -1
	spent   = -2
	outside = -3
)

// model is a band by the chapter's words alone: time goes from account to account, so that of all accounts together there is always 0.
type model struct {
	ps           int
	quota, slice int64
	has          map[int]int64
}

func newModel(ps int) *model {
	return &model{ps: ps, has: map[int]int64{}}
}

func (m *model) pass(from, to int, ns int64) {
	m.has[from] -= ns
	m.has[to] += ns
}

func (m *model) is(p int) bool { return p >= 0 && p < m.ps }

func (m *model) set(quota, slice int64) api.Errno {
	if quota < 0 || quota > end || quota > 0 && (slice < 1 || slice > end) {
		return api.ErrArg
	}
	m.quota, m.slice, m.has = quota, slice, map[int]int64{}
	m.pass(outside, pool, quota)
	return api.OK
}

func (m *model) ensure(p int) bool {
	if !m.is(p) {
		return false
	}
	if m.quota == 0 {
		return true
	}
	if m.has[p] <= 0 {
		asked := m.slice - m.has[p]
		if asked > m.has[pool] {
			asked = m.has[pool]
		}
		m.pass(pool, p, asked)
	}
	return m.has[p] > 0
}

func (m *model) charge(p int, ns int64) (bool, api.Errno) {
	if !m.is(p) {
		return false, api.ErrArg
	}
	if ns < 0 || ns > longest {
		return false, api.ErrTick
	}
	if m.quota == 0 {
		m.pass(outside, spent, ns)
	} else {
		m.pass(p, spent, ns)
	}
	return m.ensure(p), api.OK
}

func (m *model) giveBack(p int) {
	if m.is(p) && m.has[p] > 0 {
		m.pass(p, pool, m.has[p])
	}
}

func (m *model) refill() {
	m.pass(spent, outside, m.has[spent])
	m.pass(pool, outside, m.has[pool])
	m.pass(outside, pool, m.quota)
	for p := range m.ps {
		if m.has[p] > 0 {
			m.pass(p, outside, m.has[p])
		}
	}
}

func (m *model) told() told {
	s := told{limited: m.quota != 0, pool: m.has[pool], spent: m.has[spent]}
	for p := range m.ps {
		s.local = append(s.local, m.has[p])
	}
	return s
}

// answer is a call, and what it said.
type answer struct {
	call string
	is   bool
	e    api.Errno
}

// both is a band beside its model, which are asked the same; met counts each answer.
type both struct {
	t   *testing.T
	b   *quota.Band
	m   *model
	met map[answer]int
}

func newBoth(t *testing.T, ps int, met map[answer]int) *both {
	t.Helper()
	return &both{t, made(t, ps), newModel(ps), met}
}

// whole holds all that the band tells to the model.
func (b *both) whole(call string, n ...int64) {
	b.t.Helper()
	if got, want := look(b.b, b.m.ps), b.m.told(); !got.is(want) {
		b.t.Fatalf("%s of %v: %v; wanted %v", call, n, got, want)
	}
}

func (b *both) set(quota, slice int64) {
	b.t.Helper()
	want := b.m.set(quota, slice)
	if e := b.b.Set(quota, slice); e != want {
		b.t.Fatalf("Set(%d, %d): %d; wanted %d", quota, slice, e, want)
	}
	b.met[answer{"Set", quota > 0, want}]++
	b.whole("Set", quota, slice)
}

func (b *both) ensure(p int) bool {
	b.t.Helper()
	want := b.m.ensure(p)
	if is := b.b.Ensure(p); is != want {
		b.t.Fatalf("Ensure(%d): %v", p, is)
	}
	b.met[answer{"Ensure", want, api.OK}]++
	b.whole("Ensure", int64(p))
	return want
}

func (b *both) charge(p int, ns int64) {
	b.t.Helper()
	want, wantE := b.m.charge(p, ns)
	if is, e := b.b.Charge(p, ns); is != want || e != wantE {
		b.t.Fatalf("Charge(%d, %d): %v, %d; wanted %v, %d", p, ns, is, e, want, wantE)
	}
	b.met[answer{"Charge", want, wantE}]++
	b.whole("Charge", int64(p), ns)
}

func (b *both) giveBack(p int) {
	b.t.Helper()
	b.m.giveBack(p)
	b.b.Return(p)
	b.whole("Return", int64(p))
}

func (b *both) refill() {
	b.t.Helper()
	b.m.refill()
	b.b.Refill()
	b.whole("Refill")
}

// often holds a test to have met each of these, so that it is not sound for want of any.
func often(t *testing.T, met map[answer]int, want ...answer) {
	t.Helper()
	for _, a := range want {
		if met[a] < 100 {
			t.Errorf("%v: but %d times", a, met[a])
		}
	}
}

// TestAllOrders holds P12.1 to P12.3 of two Ps, at small quotas and slices: all orders of five calls behind the one that sets them.
func TestAllOrders(t *testing.T) {
	const deep = 5
	met := map[answer]int{}
	calls := []func(b *both){
		(*both).refill,
		func(b *both) { b.set(3, 1) },
	}
	for p := range 2 {
		calls = append(calls,
			func(b *both) { b.ensure(p) },
			func(b *both) { b.giveBack(p) },
			func(b *both) { b.charge(p, 1) },
			func(b *both) { b.charge(p, 4) })
	}
	orders := 1
	for range deep {
		orders *= len(calls)
	}
	for _, r := range [][2]int64{{0, 0}, {1, 1}, {5, 2}, {4, 9}} {
		for n := range orders {
			b := newBoth(t, 2, met)
			b.set(r[0], r[1])
			for range deep {
				calls[n%len(calls)](b)
				n /= len(calls)
			}
		}
	}
	often(t, met, answer{"Set", true, api.OK}, answer{"Ensure", true, api.OK}, answer{"Ensure", false, api.OK}, answer{"Charge", true, api.OK}, answer{"Charge", false, api.OK})
}

// chance is numbers without a pattern, the same ones each time.
type chance struct{ x uint64 }

// below tells a number from 0 on that is below n.
func (c *chance) below(n int64) int64 {
	c.x ^= c.x << 13
	c.x ^= c.x >> 7
	c.x ^= c.x << 17
	return int64(c.x>>1) % n
}

// upTo tells a number of any size, from 0 to n.
func (c *chance) upTo(n int64) int64 {
	return c.below(n>>c.below(41) + 1)
}

// number tells one from 0 to the last one mostly, at that end now and then, and seldom one that is just beyond an end, or far.
func (c *chance) number(last int64) int64 {
	switch c.below(40) {
	case 0:
		return -1
	case 1:
		return last + 1
	case 2:
		return -c.upTo(1 << 62)
	case 3:
		return last + 1 + c.upTo(1<<62)
	case 4, 5:
		return last
	}
	return c.upTo(last)
}

// TestLongWays holds P12.1 to P12.3 along ways without a pattern, of any number of Ps, at numbers of all sizes, and beyond.
func TestLongWays(t *testing.T) {
	met := map[answer]int{}
	for seed := range uint64(400) {
		c := &chance{seed + 88172645463325252}
		ps := int(c.below(most)) + 1
		if seed%2 == 0 {
			ps = int(c.below(3)) + 1
		}
		b := newBoth(t, ps, met)
		for range 500 {
			p := int(c.below(int64(ps)+2)) - 1
			switch c.below(24) {
			case 0:
				b.set(c.number(end), c.number(end))
			case 1:
				// A quota that some charges use up.
				b.set(c.upTo(40*longest), 1+c.upTo(2*longest))
			case 2:
				b.set(0, c.number(end))
			case 3:
				b.refill()
			case 4, 5, 6:
				b.giveBack(p)
			case 7, 8, 9, 10, 11, 12:
				b.ensure(p)
			default:
				b.charge(p, c.number(longest))
			}
		}
	}
	often(t, met,
		answer{"Set", true, api.OK}, answer{"Set", false, api.OK}, answer{"Set", true, api.ErrArg}, answer{"Set", false, api.ErrArg},
		answer{"Ensure", true, api.OK}, answer{"Ensure", false, api.OK},
		answer{"Charge", true, api.OK}, answer{"Charge", false, api.OK}, answer{"Charge", false, api.ErrArg}, answer{"Charge", false, api.ErrTick})
}
