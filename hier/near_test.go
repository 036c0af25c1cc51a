package hier_test

import (
	"slices"
	"testing"

	"dole/api"
	"dole/hier"
)

// terms are what P20.5 is told with, as chapter 8's theorem is.
type terms struct {
	credit, gran int64
	longest      uint64 // D: the longest charge
	weights      []uint64
}

// most is K: 1024 times D, divided by the least weight, rounded up. A group weighs 1024 at first.
func (s terms) most() int64 {
	low := min(1024, slices.Min(s.weights))
	return int64((1024*s.longest + low - 1) / low)
}

func allTerms() []terms {
	return []terms{
		{0, 0, 1, []uint64{1024}},
		{0, 0, 1000, []uint64{1024, 335, 3}},
		{0, 0, 7, []uint64{2, 262144}},
		{0, 50, 9, []uint64{1024, 1586, 820}},
		{100, 0, 9, []uint64{1024, 1586, 820}},
		{3000, 700, 1000, []uint64{88761, 1024, 15, 2}},
		{700, 3000, 10, []uint64{2048, 512, 3, 262144}},
		{6000000, 1000000, 4000000, []uint64{88761, 9548, 1024, 110, 15}},
		{top, top, longest, []uint64{2, 1024, 262144}},
		{0, top, longest, []uint64{2, 1024, 262144}},
		{top, 0, longest, []uint64{2, 1024, 262144}},
	}
}

// script is a Hier that is asked as P20.5 has it: Pick comes ahead of each charge, and each task is put where it woke, in its own group.
type script struct {
	t     *testing.T
	terms terms
	c     *chance
	h     *hier.Hier
	up    map[int]int     // of each group that is linked, the one within which it is
	own   []int           // of each task, its group
	out   map[int]api.Ent // of each task that stands in no queue
}

func newScript(t *testing.T, s terms, c *chance, many, count int) *script {
	r := &script{t: t, terms: s, c: c, h: hier.New(s.credit, s.gran), up: map[int]int{}, out: map[int]api.Ent{}}
	for g := 1; g <= many; g++ {
		r.link(g, c.below(g))
	}
	for task := range count {
		r.own = append(r.own, c.below(many+1))
		r.out[task] = ent(task, s.weights[c.below(len(s.weights))], 0, 0)
	}
	return r
}

// link does what can be done.
func (r *script) link(g, parent int) {
	if r.h.Link(g, parent) == api.OK {
		r.up[g] = parent
	}
}

func (r *script) move(g, parent int) {
	if r.h.Move(g, parent) == api.OK {
		r.up[g] = parent
	}
}

// unlink lets the tasks of the group begin anew: it has another queue when it is linked again.
func (r *script) unlink(g int) {
	if r.h.Unlink(g) != api.OK {
		return
	}
	delete(r.up, g)
	for task, e := range r.out {
		if r.own[task] == g {
			r.out[task] = ent(task, e.Weight, 0, 0)
		}
	}
}

func (r *script) there(g int) bool {
	_, is := r.up[g]
	return is || g == 0
}

// toggle puts a task that is out, where it wakes, and drops one that is there.
func (r *script) toggle(task int) {
	r.t.Helper()
	g := r.own[task]
	if e, is := r.out[task]; !is {
		r.out[task] = drop(r.t, r.h, g, task)
	} else if r.there(g) {
		e.V = max(e.V, r.h.Min(g)-r.terms.credit)
		put(r.t, r.h, g, e)
		delete(r.out, task)
	}
}

// stoppedAbove tells whether a group is stopped, or one above it.
func (r *script) stoppedAbove(g int) bool {
	for g != 0 && !r.h.Stopped(g) {
		g = r.up[g]
	}
	return g != 0
}

// pick holds P20.5: a task runs behind Pick, if there is one that stands in a queue with no stopped group above it, and it is such a one.
func (r *script) pick(call func() int) {
	r.t.Helper()
	may := map[int]bool{}
	for task, g := range r.own {
		if _, out := r.out[task]; !out && !r.stoppedAbove(g) {
			may[task] = true
		}
	}
	switch n := call(); {
	case n != r.h.Running():
		r.t.Fatalf("Pick: %d; Running: %d", n, r.h.Running())
	case len(may) == 0 && n != -1:
		r.t.Fatalf("%d runs, and none may", n)
	case len(may) > 0 && !may[n]:
		r.t.Fatalf("%d runs; there are %v", n, may)
	}
}

// place is an entity of a queue.
type place struct{ g, id int }

// had is how much each one in a queue went, in parts: its weight times V, and what is left over, modulo 2^64.
func (r *script) had() map[place]uint64 {
	out := map[place]uint64{}
	for g := range groups {
		for _, e := range r.h.Queue(g) {
			out[place{g, e.Id}] = e.Weight*uint64(e.V) + e.Rem
		}
	}
	return out
}

// charge holds P20.5: what the one that runs is served, each one above it is, to the part; and nobody else.
func (r *script) charge(ns uint64) {
	r.t.Helper()
	r.pick(r.h.Pick)
	task := r.h.Running()
	want := r.had()
	if task < 0 {
		errno(r.t, "Charge of nobody", r.h.Charge(ns), api.ErrState)
	} else {
		charge(r.t, r.h, ns)
		g := r.own[task]
		want[place{g, 2 * task}] += 1024 * ns
		for ; g != 0; g = r.up[g] {
			want[place{r.up[g], 2*g + 1}] += 1024 * ns
		}
	}
	got := r.had()
	if len(got) != len(want) {
		r.t.Fatalf("Charge: %d entities; there were %d", len(got), len(want))
	}
	for p, parts := range want {
		if got[p] != parts {
			r.t.Fatalf("Charge(%d) of %d: %v has %d parts; wanted %d", ns, task, p, got[p], parts)
		}
	}
}

// near holds P20.5's last words: in each queue all V lie from Min less the credit to Min and gran and K together.
func (r *script) near() {
	r.t.Helper()
	for g := range groups {
		low, high := r.h.Min(g)-r.terms.credit, r.h.Min(g)+r.terms.gran+r.terms.most()
		for _, e := range r.h.Queue(g) {
			if e.V < low || e.V > high {
				r.t.Fatalf("%v: in %d %v beyond %d to %d", r.terms, g, e, low, high)
			}
		}
	}
}

// step does one thing of a script's, without a pattern.
func (r *script) step() {
	r.t.Helper()
	g, other, task := r.c.below(len(r.own)), r.c.below(len(r.own)), r.c.below(len(r.own))
	w := r.terms.weights[r.c.below(len(r.terms.weights))]
	switch n := r.c.below(32); {
	case n < 1:
		r.link(g, other)
	case n < 2:
		r.unlink(g)
	case n < 4:
		r.move(g, other)
	case n < 10:
		r.toggle(task)
	case n < 11:
		r.h.Weigh(g, w)
	case n < 12:
		r.h.Nice(r.own[task], task, w)
	case n < 15:
		r.h.Stop(g, r.c.below(4) == 0)
	case n < 16:
		r.pick(r.h.Yield)
	case n < 19:
		r.charge(r.c.next() >> 1 % (r.terms.longest + 1))
	default:
		r.charge(r.terms.longest)
	}
	r.near()
}

// TestNear holds P20.5 along scripts without a pattern, of few groups and tasks and of many.
func TestNear(t *testing.T) {
	for i, s := range allTerms() {
		for seed, size := range [][2]int{{1, 3}, {2, 3}, {3, 8}, {12, 20}} {
			r := newScript(t, s, newChance(20*i+seed), size[0], size[1])
			for range 2000 {
				r.step()
			}
		}
	}
}

// TestRuns holds P20.5 of all rows of four groups within one another, with each of them stopped or not, and with a task or not.
func TestRuns(t *testing.T) {
	for shape := range 2 * 3 * 4 {
		for set := range 1 << 9 {
			r := &script{t: t, h: hier.New(0, 0), up: map[int]int{}, out: map[int]api.Ent{}}
			for g, n := 1, shape; g <= 4; g++ {
				r.link(g, n%g)
				n /= g
			}
			for task := range 5 {
				r.own = append(r.own, task)
				r.out[task] = unit(task, 0)
				if set>>task&1 == 1 {
					r.toggle(task)
				}
			}
			for g := 1; g <= 4; g++ {
				stop(t, r.h, g, set>>(g+4)&1 == 1)
			}
			r.pick(r.h.Pick)
			r.pick(r.h.Yield)
			r.charge(3)
			r.pick(r.h.Yield)
		}
	}
}

// served is for how long each of so many tasks was, in so many ticks, with a Pick ahead of each.
func served(t *testing.T, h *hier.Hier, count, ticks int, ns uint64) []int {
	t.Helper()
	out := make([]int, count)
	for range ticks {
		out[h.Pick()] += int(ns)
		charge(t, h, ns)
	}
	return out
}

// TestTwoGroups holds the document's example of the whole: two groups of one weight on one P, a task each, ticked for 10 twice: each had 10.
func TestTwoGroups(t *testing.T) {
	h := hier.New(0, 0)
	for g := 1; g <= 2; g++ {
		link(t, h, g, 0)
		put(t, h, g, unit(g-1, 0))
	}
	if l := served(t, h, 2, 2, 10); !slices.Equal(l, []int{10, 10}) {
		t.Errorf("served for %v", l)
	}
}

// TestShares holds P3 of groups: in the long run each has what it weighs beside its brothers, however many tasks are in it, and its tasks share that.
func TestShares(t *testing.T) {
	h := hier.New(0, 0)
	link(t, h, 1, 0)
	link(t, h, 2, 0)
	link(t, h, 3, 2)
	errno(t, "Weigh", h.Weigh(2, 2048), api.OK)
	put(t, h, 0, unit(0, 0))
	put(t, h, 1, unit(1, 0), ent(2, 3072, 0, 0))
	put(t, h, 2, unit(3, 0))
	put(t, h, 3, unit(4, 0), unit(5, 0))
	// Of four parts the root's task has one, the group 1 one, and the group 2 two.
	l := served(t, h, 6, 32000, 1000)
	for task, want := range []int{8000, 2000, 6000, 8000, 4000, 4000} {
		if d := l[task]/1000 - want; d < -10 || d > 10 {
			t.Errorf("the task %d was served for %d; wanted %d", task, l[task]/1000, want)
		}
	}
}
