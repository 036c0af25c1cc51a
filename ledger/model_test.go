package ledger_test

import (
	"math"
	"math/big"
	"slices"
	"testing"

	"dole/api"
	"dole/ledger"
)

// line is a credit as it was noted.
type line struct {
	path []int
	task int
	ns   int64
	gone bool // the task was forgotten since
}

// journal is a book by the chapter's words alone: all credits as they came, of which each sum is made anew, without an end, when it is asked.
type journal struct{ lines []line }

// sum is how much all those had of which something is so.
func (j *journal) sum(of func(l line) bool) *big.Int {
	all := new(big.Int)
	for _, l := range j.lines {
		if of(l) {
			all.Add(all, big.NewInt(l.ns))
		}
	}
	return all
}

func (j *journal) total() *big.Int {
	return j.sum(func(l line) bool { return true })
}

func (j *journal) task(n int) int64 {
	return j.sum(func(l line) bool { return l.task == n && !l.gone }).Int64()
}

func (j *journal) group(n int) int64 {
	return j.sum(func(l line) bool { return slices.Contains(l.path, n) }).Int64()
}

func (j *journal) credit(path []int, task int, ns int64) api.Errno {
	if ns < 0 || task < 0 {
		return api.ErrArg
	}
	for i, n := range path {
		if n < 0 || slices.Contains(path[:i], n) {
			return api.ErrArg
		}
	}
	if beyond := j.total(); beyond.Add(beyond, big.NewInt(ns)).Cmp(big.NewInt(most)) > 0 {
		return api.ErrFull
	}
	j.lines = append(j.lines, line{slices.Clone(path), task, ns, false})
	return api.OK
}

func (j *journal) forget(task int) int64 {
	had := j.task(task)
	for i := range j.lines {
		if j.lines[i].task == task {
			j.lines[i].gone = true
		}
	}
	return had
}

// tasks are those that had more than 0, looked for among so many.
func (j *journal) tasks(many int) []int {
	var l []int
	for n := range many {
		if j.task(n) > 0 {
			l = append(l, n)
		}
	}
	return l
}

// both is a book beside its journal, which are asked the same, of numbers below many; met counts each answer.
type both struct {
	t    *testing.T
	b    *ledger.Book
	j    *journal
	many int
	met  map[api.Errno]int
}

func newBoth(t *testing.T, many int, met map[api.Errno]int) *both {
	return &both{t, ledger.New(), &journal{}, many, met}
}

// whole holds all that the book tells to the journal.
func (b *both) whole(call string) {
	b.t.Helper()
	if got, want := b.b.Total(), b.j.total().Int64(); got != want {
		b.t.Fatalf("%s: Total %d; wanted %d", call, got, want)
	}
	if got, want := b.b.Tasks(), b.j.tasks(b.many); !slices.Equal(got, want) {
		b.t.Fatalf("%s: Tasks %v; wanted %v", call, got, want)
	}
	for n := range b.many {
		told(b.t, call, "task", n, b.b.Task(n), b.j.task(n))
		told(b.t, call, "group", n, b.b.Group(n), b.j.group(n))
	}
}

func (b *both) credit(path []int, task int, ns int64) {
	b.t.Helper()
	want := b.j.credit(path, task, ns)
	credit(b.t, b.b, path, task, ns, want)
	b.met[want]++
	b.whole("Credit")
}

func (b *both) forget(task int) {
	b.t.Helper()
	forget(b.t, b.b, task, b.j.forget(task))
	b.whole("Forget")
}

// often holds a test to have met each answer of Credit, so that it is not sound for want of any.
func often(t *testing.T, met map[api.Errno]int) {
	t.Helper()
	for _, e := range []api.Errno{api.OK, api.ErrArg, api.ErrFull} {
		if met[e] < 100 {
			t.Errorf("%d: but %d times", e, met[e])
		}
	}
}

// TestAllOrders holds P18.1 and P18.2 of three tasks and three groups: all orders of four calls, in a book that is new, and in one that is full but for little.
func TestAllOrders(t *testing.T) {
	const deep = 4
	met := map[api.Errno]int{}
	calls := []func(b *both){
		func(b *both) { b.credit(nil, 0, 1) },
		func(b *both) { b.credit([]int{0, 1}, 0, 2) },
		func(b *both) { b.credit([]int{2, 0}, 1, 4) },
		func(b *both) { b.credit([]int{1}, 1, 0) },
		func(b *both) { b.credit([]int{1}, 2, most-9) },
		func(b *both) { b.credit([]int{1, 0, 1}, 1, 1) },
		func(b *both) { b.credit([]int{0}, 1, -1) },
		func(b *both) { b.forget(0) },
		func(b *both) { b.forget(1) },
		func(b *both) { b.forget(2) },
	}
	orders := 1
	for range deep {
		orders *= len(calls)
	}
	for _, first := range []int64{0, most - 6} {
		for n := range orders {
			b := newBoth(t, 3, met)
			b.credit([]int{0}, 2, first)
			for range deep {
				calls[n%len(calls)](b)
				n /= len(calls)
			}
		}
	}
	often(t, met)
}

// chance is numbers without a pattern, the same ones each time.
type chance struct{ x uint64 }

// below tells a number from 0 on that is below n.
func (c *chance) below(n int64) int64 {
	c.x ^= c.x << 13
	c.x ^= c.x >> 7
	c.x ^= c.x << 17
	return int64(c.x>>1) % n
}

// number tells one below many mostly, and seldom one that is below 0.
func (c *chance) number(many int) int {
	if c.below(60) == 0 {
		return int(-1 - c.below(int64(many)))
	}
	return int(c.below(int64(many)))
}

// path tells some numbers, of which two may be alike.
func (c *chance) path(many int) []int {
	var l []int
	for range c.below(5) {
		l = append(l, c.number(many))
	}
	return l
}

// ns tells how long, of all sizes up to 2^most, and seldom below 0.
func (c *chance) ns(most int64) int64 {
	ns := c.below(1 << c.below(most+1))
	if c.below(30) == 0 {
		return -1 - ns
	}
	return ns
}

// near tells about as long as there is room for, or half of that, or a quarter.
func (c *chance) near(left int64) int64 { return left>>c.below(3) + c.below(3) - 1 }

// TestLongWays holds P18.1 and P18.2 along ways without a pattern, of few numbers and of many, of short times and of such as fill the book.
func TestLongWays(t *testing.T) {
	met := map[api.Errno]int{}
	forgot := 0
	for seed := range uint64(60) {
		c := &chance{seed + 88172645463325252}
		many := []int{1, 3, 9, 40}[seed%4]
		top := []int64{4, 30, 56, 62}[seed/4%4]
		b := newBoth(t, many, met)
		for range 120 {
			if c.below(4) > 0 {
				ns := c.ns(top)
				if seed%3 == 0 && c.below(8) == 0 {
					ns = c.near(most - b.b.Total())
				}
				b.credit(c.path(many), c.number(many), ns)
				continue
			}
			task := c.number(many)
			if b.j.task(task) > 0 {
				forgot++
			}
			b.forget(task)
		}
	}
	often(t, met)
	if forgot < 100 {
		t.Errorf("but %d that had something were forgotten", forgot)
	}
}

// TestSums holds P18.3 of tasks that stand in groups within one another, the root 0 above all of them: Total is what all tasks had, with what was forgotten; no group had more; and one above another one, which always stands with it, had no less.
func TestSums(t *testing.T) {
	const many = 32
	for seed := range uint64(40) {
		c := &chance{seed + 88172645463325252}
		b := ledger.New()
		above := make([]int, many) // each group's, which is a lesser number
		for g := 1; g < many; g++ {
			above[g] = int(c.below(int64(g)))
		}
		forgotten := int64(0)
		for range 400 {
			if c.below(5) == 0 {
				forgotten += b.Forget(c.number(many))
			} else {
				b.Credit(way(above, int(c.below(many))), c.number(many), c.ns(40))
			}
			total := b.Total()
			sum := forgotten
			for _, task := range b.Tasks() {
				sum += b.Task(task)
			}
			if sum != total || b.Group(0) != total {
				t.Fatalf("Total %d; all tasks had %d, and the root %d", total, sum, b.Group(0))
			}
			for g := 1; g < many; g++ {
				if had := b.Group(g); had > total || had > b.Group(above[g]) {
					t.Fatalf("%d of %d: group %d had %d, and %d, above it, %d", b.Group(g), total, g, had, above[g], b.Group(above[g]))
				}
			}
		}
		if forgotten == 0 || b.Total() == forgotten || b.Total() == math.MaxInt64 {
			t.Fatalf("seed %d: %d of %d are forgotten", seed, forgotten, b.Total())
		}
	}
}

// way are the groups from one up to the root.
func way(above []int, g int) []int {
	l := []int{g}
	for g != 0 {
		g = above[g]
		l = append(l, g)
	}
	return l
}
