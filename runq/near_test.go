package runq_test

import (
	"math/big"
	"testing"

	"dole/api"
	"dole/runq"
)

// terms are what P8.5 and P8.6 are told with.
type terms struct {
	credit, gran int64
	longest      uint64 // D: the longest charge
	weights      []uint64
}

// most is K: 1024 times D, divided by the least weight, rounded up.
func (s terms) most() int64 {
	low := s.weights[0]
	for _, w := range s.weights {
		low = min(low, w)
	}
	return int64((1024*s.longest + low - 1) / low)
}

// wide is the credit, gran and K together.
func (s terms) wide() int64 { return s.credit + s.gran + s.most() }

func allTerms() []terms {
	return []terms{
		{0, 0, 1, []uint64{1024}},
		{0, 0, 1000, []uint64{1024, 335, 3}},
		{0, 0, 7, []uint64{2, 262144}},
		{0, 50, 9, []uint64{1024, 1586, 820}},
		{100, 0, 9, []uint64{1024, 1586, 820}},
		{3000, 700, 1000, []uint64{88761, 1024, 15, 2}},
		{700, 3000, 10, []uint64{2048, 512, 3, 262144}},
		{6000000, 1000000, 4000000, []uint64{88761, 9548, 1024, 110, 15}},
		{1 << 40, 1 << 40, 1000000000, []uint64{2, 1024, 262144}},
		{0, 1 << 40, 1000000000, []uint64{2, 1024, 262144}},
		{1 << 40, 0, 1000000000, []uint64{2, 1024, 262144}},
	}
}

// window is a time in which one waits: how far above Min it stood as that began, and how long each other one was served in it.
type window struct {
	lead   int64
	served map[int]uint64
}

// script is a queue that is put, dropped, weighed, picked and charged as P8.5 has it, and what its entities had.
type script struct {
	t       *testing.T
	terms   terms
	c       *chance
	q       *runq.Queue
	all     int // so many there are, there and outside
	stay    int // so many of them, from Id 0 on, are never dropped and never weighed
	out     map[int]api.Ent
	windows map[int]*window
	served  map[int]uint64
}

// newScript has the first ones there already, and all others outside.
func newScript(t *testing.T, s terms, c *chance, stay, all int) *script {
	r := &script{t: t, terms: s, c: c, q: runq.New(), all: all, stay: stay, out: map[int]api.Ent{}, windows: map[int]*window{}, served: map[int]uint64{}}
	for id := range all {
		r.out[id] = ent(id, s.weights[id%len(s.weights)], 0, 0)
	}
	for id := range stay {
		r.put(id)
	}
	return r
}

func (r *script) there(id int) (api.Ent, bool) {
	for _, e := range r.q.Ents() {
		if e.Id == id {
			return e, true
		}
	}
	return api.Ent{}, false
}

func (r *script) ok(what string, err api.Errno) {
	r.t.Helper()
	if err != api.OK {
		r.t.Fatalf("%s: %d", what, err)
	}
}

// put lays one there where it wakes: with what it had, but no further below Min than the credit.
func (r *script) put(id int) {
	r.t.Helper()
	e := r.out[id]
	e.V = max(e.V, r.q.Min()-r.terms.credit)
	r.ok("Put", r.q.Put(e))
	delete(r.out, id)
	r.pick()
}

func (r *script) drop(id int) {
	r.t.Helper()
	e, err := r.q.Drop(id)
	r.ok("Drop", err)
	r.out[id] = e
	delete(r.windows, id)
	r.pick()
}

// weigh begins anew to count for how long the one was served: P8.6 speaks of the weight that it has.
func (r *script) weigh(id int, w uint64) {
	r.t.Helper()
	r.ok("Weigh", r.q.Weigh(id, w))
	for _, x := range r.windows {
		x.served[id] = 0
	}
}

func (r *script) pick() {
	r.t.Helper()
	id := r.q.Pick(r.terms.gran)
	delete(r.windows, id)
	ents := r.q.Ents()
	if len(ents)+len(r.out) != r.all {
		r.t.Fatalf("%d there, %d outside, of %d", len(ents), len(r.out), r.all)
	}
	for _, e := range ents {
		if e.Id != id && r.windows[e.Id] == nil {
			r.windows[e.Id] = &window{max(0, e.V-r.q.Min()), map[int]uint64{}}
		}
	}
}

// charge also begins to count where one ahead of Min has come to be at Min: from there on P8.6 speaks of it with nothing added.
func (r *script) charge(ns uint64) {
	r.t.Helper()
	r.pick()
	id := r.q.Current()
	if id < 0 {
		return
	}
	r.ok("Charge", r.q.Charge(ns))
	r.served[id] += ns
	for _, x := range r.windows {
		x.served[id] += ns
	}
	r.comes()
	for _, e := range r.q.Ents() {
		if x := r.windows[e.Id]; x != nil && x.lead > 0 && e.V <= r.q.Min() {
			r.windows[e.Id] = &window{0, map[int]uint64{}}
		}
	}
}

// near holds P8.5: all V lie from Min less the credit to Min and gran and K together.
func (r *script) near() {
	r.t.Helper()
	low, high := r.q.Min()-r.terms.credit, r.q.Min()+r.terms.gran+r.terms.most()
	for _, e := range r.q.Ents() {
		if e.V < low || e.V > high {
			r.t.Fatalf("%v: an entity %v beyond %d to %d", r.terms, e, low, high)
		}
	}
}

// comes holds P8.6: while one waits, no other one was served for more than (the credit, gran and one together, and by how much the one was ahead of Min as it began to wait) times its weight, divided by 1024, and D.
func (r *script) comes() {
	r.t.Helper()
	for id, x := range r.windows {
		for _, e := range r.q.Ents() {
			if e.Id == id {
				continue
			}
			parts := 1024 * x.served[e.Id]
			units := uint64(r.terms.credit + r.terms.gran + 1 + x.lead)
			if parts > units*e.Weight+1024*r.terms.longest {
				r.t.Fatalf("%v: %d waits, while %v was served for %d", r.terms, id, e, x.served[e.Id])
			}
		}
	}
}

// fair holds the last words of P8.5 of all that stayed from the beginning on: how far two of them went differs by at most the credit, gran and K together. No one's vruntime is off by a part of a unit from what it was served; so, to the part, the difference is less than one more.
func (r *script) fair() {
	r.t.Helper()
	for a := range r.stay {
		for b := range a {
			x, _ := r.there(a)
			y, _ := r.there(b)
			if d := x.V - y.V; d > r.terms.wide() || -d > r.terms.wide() {
				r.t.Fatalf("%v: %v and %v, which stayed", r.terms, x, y)
			}
			d := new(big.Rat).Sub(r.went(x), r.went(y))
			if d.Abs(d).Cmp(new(big.Rat).SetInt64(r.terms.wide()+1)) >= 0 {
				r.t.Fatalf("%v: %v and %v, which stayed, are %v apart", r.terms, x, y, d)
			}
		}
	}
}

// went is what one was served, by weight, to the part; its vruntime is held to it.
func (r *script) went(e api.Ent) *big.Rat {
	r.t.Helper()
	parts := new(big.Int).Mul(big.NewInt(1024), new(big.Int).SetUint64(r.served[e.Id]))
	had := new(big.Int).Add(new(big.Int).Mul(big.NewInt(e.V), new(big.Int).SetUint64(e.Weight)), new(big.Int).SetUint64(e.Rem))
	if parts.Cmp(had) != 0 {
		r.t.Fatalf("%v was served for %d", e, r.served[e.Id])
	}
	return new(big.Rat).SetFrac(parts, new(big.Int).SetUint64(e.Weight))
}

// step does one thing of a script's, without a pattern.
func (r *script) step() {
	r.t.Helper()
	id := r.c.below(r.all)
	_, is := r.there(id)
	switch n := r.c.below(16); {
	case n < 2 && !is:
		r.put(id)
	case n < 2 && id >= r.stay:
		r.drop(id)
	case n < 3 && is && id >= r.stay:
		r.weigh(id, r.terms.weights[r.c.below(len(r.terms.weights))])
	case n < 4:
		// Whoever has it now, a pick comes ahead of the next charge.
		r.q.Yield(r.terms.gran)
		r.pick()
	case n < 8:
		r.charge(r.c.next() >> 1 % (r.terms.longest + 1))
	default:
		r.charge(r.terms.longest)
	}
}

// TestNear holds P8.5 and P8.6 along scripts without a pattern, of few and of many entities, some of which stay.
func TestNear(t *testing.T) {
	c := newChance()
	for _, s := range allTerms() {
		for _, size := range [][2]int{{0, 2}, {1, 3}, {2, 2}, {2, 6}, {3, 20}} {
			r := newScript(t, s, c, size[0], size[1])
			for range 3000 {
				r.step()
				r.near()
			}
			r.fair()
		}
	}
}

// TestFair holds the last words of P8.5 where nobody comes and goes, after each single charge.
func TestFair(t *testing.T) {
	c := newChance()
	for _, s := range allTerms() {
		for _, size := range []int{2, 5} {
			r := newScript(t, s, c, size, size)
			for range 1000 {
				r.charge(s.longest)
				r.near()
				r.fair()
			}
		}
	}
}

// TestSleeps holds P8.5 and P8.6 where one sleeps for long, again and again, and wakes with all the credit that it may have.
func TestSleeps(t *testing.T) {
	c := newChance()
	for _, s := range allTerms() {
		r := newScript(t, s, c, 2, 3)
		for range 40 {
			r.put(2)
			for range 20 {
				r.charge(s.longest)
				r.near()
			}
			r.drop(2)
			for range 60 {
				r.charge(s.longest)
				r.near()
			}
		}
		r.fair()
	}
}

// TestShares holds P8.5 in the long run: who weighs twice as much is served for twice as long, but for what the theorem lets be.
func TestShares(t *testing.T) {
	s := terms{0, 1000, 1000, []uint64{1024, 2048}}
	r := newScript(t, s, newChance(), 2, 2)
	for range 30000 {
		r.charge(1000)
	}
	// 30,000,000 in all: 10,000,000 and 20,000,000, or as near as the theorem says.
	if n := r.served[0]; n < 10000000-2000 || n > 10000000+2000 {
		t.Errorf("served for %d and %d", r.served[0], r.served[1])
	}
}

// TestAsFarAsThat holds P8.5 and P8.6 from the other side: a queue does come to where the theorem ends, so that no lesser gran is meant and none is passed over.
func TestAsFarAsThat(t *testing.T) {
	q := runq.New()
	q.Put(ent(1, 1024, 0, 0))
	q.Put(ent(2, 1024, 0, 0))
	for range 11 {
		if n := q.Pick(50); n != 1 {
			t.Fatalf("Pick(50): %d", n)
		}
		q.Charge(5)
	}
	// Min 0, gran 50, K 5; and it was served for 50 and 5.
	if e := q.Ents()[1]; e != ent(1, 1024, 55, 0) || q.Min() != 0 {
		t.Errorf("%v, %d", e, q.Min())
	}
	if n := q.Pick(50); n != 2 {
		t.Errorf("Pick(50) behind that: %d", n)
	}
}

// TestAheadWaitsForThatToo holds P8.3 where P8.6 says less: one that is ahead of Min as it begins to wait, here by the 512 that it went on itself, lets the others come as far first. P8.6's own bound, 257 of the heavy one's, holds for who stands at Min or below.
func TestAheadWaitsForThatToo(t *testing.T) {
	q := queue(t, ent(1, 2, 0, 0), ent(2, 262144, 0, 0))
	number(t, "Pick", q.Pick(0), 1)
	errno(t, "Charge", q.Charge(1), api.OK)
	ns := 0
	for q.Pick(0) == 2 && ns < 200000 {
		errno(t, "Charge", q.Charge(1), api.OK)
		ns++
	}
	number(t, "served for", ns, 513*256)
}
