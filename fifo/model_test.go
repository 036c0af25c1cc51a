package fifo_test

import (
	"math"
	"slices"
	"testing"

	"dole/fifo"
)

// came is a line by the chapter's words alone: when each one came, by a count that goes on. Who came first is looked for each time.
type came struct {
	when map[int]int
	next int
}

func newCame() *came {
	return &came{when: map[int]int{}}
}

// list are all of them, by when they came.
func (m *came) list() []int {
	var l []int
	for p := range m.when {
		l = append(l, p)
	}
	slices.SortFunc(l, func(a, b int) int { return m.when[a] - m.when[b] })
	return l
}

func (m *came) put(p int) bool {
	if _, is := m.when[p]; is || p < 0 || len(m.when) == most {
		return false
	}
	m.when[p] = m.next
	m.next++
	return true
}

func (m *came) take() (int, bool) {
	l := m.list()
	if len(l) == 0 {
		return 0, false
	}
	delete(m.when, l[0])
	return l[0], true
}

func (m *came) drop(p int) bool {
	_, is := m.when[p]
	delete(m.when, p)
	return is
}

// answer is a call, and what it said.
type answer struct {
	call string
	is   bool
}

// both is a line beside its model, which are asked the same; met counts each answer.
type both struct {
	t   *testing.T
	l   *fifo.Line
	m   *came
	met map[answer]int
}

func newBoth(t *testing.T, met map[answer]int) *both {
	return &both{t, fifo.New(), newCame(), met}
}

// whole holds what a call said, and all that the line tells, to the model.
func (b *both) whole(call string, p int, is, want bool) {
	b.t.Helper()
	if is != want {
		b.t.Fatalf("%s of %d: %v", call, p, is)
	}
	b.met[answer{call, is}]++
	holds(b.t, b.l, b.m.list()...)
}

func (b *both) put(p int) {
	b.t.Helper()
	b.whole("Put", p, b.l.Put(p), b.m.put(p))
}

func (b *both) drop(p int) {
	b.t.Helper()
	b.whole("Drop", p, b.l.Drop(p), b.m.drop(p))
}

func (b *both) take() {
	b.t.Helper()
	p, is := b.l.Take()
	want, wantIs := b.m.take()
	if p != want {
		b.t.Fatalf("Take(): %d; wanted %d", p, want)
	}
	b.whole("Take", p, is, wantIs)
}

// often holds a test to have met each answer that a call may have, so that it is not sound for want of any.
func often(t *testing.T, met map[answer]int) {
	t.Helper()
	for _, call := range []string{"Put", "Take", "Drop"} {
		for _, is := range []bool{false, true} {
			if n := met[answer{call, is}]; n < 100 {
				t.Errorf("%s said %v but %d times", call, is, n)
			}
		}
	}
}

// TestAllOrders holds P13.1, and P13.3's first words, of three Ps: all orders of six calls.
func TestAllOrders(t *testing.T) {
	const deep = 6
	met := map[answer]int{}
	calls := []func(b *both){(*both).take}
	for p := range 3 {
		calls = append(calls,
			func(b *both) { b.put(p) },
			func(b *both) { b.drop(p) })
	}
	orders := 1
	for range deep {
		orders *= len(calls)
	}
	for n := range orders {
		b := newBoth(t, met)
		for range deep {
			calls[n%len(calls)](b)
			n /= len(calls)
		}
	}
	often(t, met)
}

// chance is numbers without a pattern, the same ones each time.
type chance struct{ x uint64 }

// below tells a number from 0 on that is below n.
func (c *chance) below(n int) int {
	c.x ^= c.x << 13
	c.x ^= c.x >> 7
	c.x ^= c.x << 17
	return int(c.x>>1) % n
}

// p tells one of many Ps mostly, and seldom a number that is far off, or below 0.
func (c *chance) p(many int) int {
	switch c.below(40) {
	case 0:
		return -1 - c.below(many)
	case 1:
		return math.MaxInt - c.below(3)
	}
	return c.below(many)
}

// TestLongWays holds P13.1, and P13.3's first words, along ways without a pattern, on which the line fills and empties by turns, of few Ps and of more than may wait.
func TestLongWays(t *testing.T) {
	met := map[answer]int{}
	full, empty := 0, 0
	for seed, many := range []int{1, 2, 3, 7, 30, 63, 64, 65, 80, 200} {
		c := &chance{uint64(seed) + 88172645463325252}
		b := newBoth(t, met)
		for n := range 4000 {
			coming := n/300%2 == 0
			switch c.below(8) {
			case 0:
				b.take()
			case 1:
				b.drop(c.p(many))
			case 2, 3:
				b.put(c.p(many))
			default:
				if coming {
					b.put(c.p(many))
				} else {
					b.take()
				}
			}
			switch b.l.Len() {
			case most:
				full++
			case 0:
				empty++
			}
		}
	}
	often(t, met)
	if full < 100 || empty < 100 {
		t.Errorf("the line was full %d times, empty %d times", full, empty)
	}
}

// TestTurn holds P13.3's first words: whoever is put goes first of all that are put behind it, if it is not dropped, and each one that is taken was put, once for each time.
func TestTurn(t *testing.T) {
	c := &chance{88172645463325252}
	l := fifo.New()
	since := map[int]int{} // when each one that waits came
	last, taken := -1, 0
	for n := range 20000 {
		p := c.below(100)
		switch c.below(5) {
		case 0, 1:
			if l.Put(p) {
				since[p] = n
			}
		case 2:
			if l.Drop(p) {
				delete(since, p)
			}
		default:
			p, is := l.Take()
			if !is {
				continue
			}
			at, waits := since[p]
			if !waits || at <= last {
				t.Fatalf("%d is taken, which came at %d (%v); the one ahead of it came at %d", p, at, waits, last)
			}
			last = at
			taken++
			delete(since, p)
		}
	}
	if taken < 1000 {
		t.Errorf("but %d were taken", taken)
	}
}
