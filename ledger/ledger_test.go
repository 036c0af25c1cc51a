package ledger_test

import (
	"math"
	"slices"
	"testing"

	"dole/api"
	"dole/ledger"
)

const most = math.MaxInt64 // that Total may be, by the chapter's words

// view is what a book tells. Who is not named there had nothing.
type view struct {
	tasks, groups map[int]int64
	total         int64
}

// below are numbers that nobody has.
func below() []int {
	return []int{-1, -2, -3, -63, -64, -128, -255, -256, -1 << 16, -1 << 32, -1<<32 + 1, -1<<32 + 3, math.MinInt, math.MinInt + 1, math.MinInt + 3}
}

// apart are numbers from 0 on, among them those that a narrower kind of integer would take for one another: rising, each once.
func apart() []int {
	l := []int{math.MaxInt - 1, math.MaxInt}
	for _, i := range []int{6, 8, 16, 31, 32, 33, 53, 62} {
		l = append(l, 1<<i-1, 1<<i, 1<<i+1, 1<<i+3)
	}
	for n := range 13 {
		l = append(l, n)
	}
	slices.Sort(l)
	return slices.Compact(l)
}

// rising are those of an account's numbers that had something.
func rising(had map[int]int64) []int {
	var l []int
	for n, ns := range had {
		if ns > 0 {
			l = append(l, n)
		}
	}
	slices.Sort(l)
	return l
}

// told holds what one account has to what it should.
func told(t *testing.T, when, what string, n int, got, want int64) {
	t.Helper()
	if got != want {
		t.Fatalf("%s: %s %d had %d; wanted %d", when, what, n, got, want)
	}
}

// holds holds all that a book tells, of those who had something and of others.
func holds(t *testing.T, when string, b *ledger.Book, want view) {
	t.Helper()
	if total := b.Total(); total != want.total {
		t.Fatalf("%s: Total %d; wanted %d", when, total, want.total)
	}
	if l := b.Tasks(); !slices.Equal(l, rising(want.tasks)) {
		t.Fatalf("%s: Tasks %v; wanted %v", when, l, rising(want.tasks))
	}
	for _, n := range append(below(), apart()...) {
		told(t, when, "task", n, b.Task(n), want.tasks[n])
		told(t, when, "group", n, b.Group(n), want.groups[n])
	}
	for n, ns := range want.tasks {
		told(t, when, "task", n, b.Task(n), ns)
	}
	for n, ns := range want.groups {
		told(t, when, "group", n, b.Group(n), ns)
	}
}

// credit holds Credit to what it should say, and the path, with the room behind it, to stay as it is.
func credit(t *testing.T, b *ledger.Book, path []int, task int, ns int64, want api.Errno) {
	t.Helper()
	all := path[:cap(path)]
	asked := slices.Clone(all)
	if e := b.Credit(path, task, ns); e != want {
		t.Fatalf("Credit(%v, %d, %d): %d; wanted %d", path, task, ns, e, want)
	}
	if !slices.Equal(all, asked) {
		t.Fatalf("Credit(%v, %d, %d) leaves %v", asked[:len(path)], task, ns, all)
	}
}

// forget holds Forget likewise.
func forget(t *testing.T, b *ledger.Book, task int, want int64) {
	t.Helper()
	if had := b.Forget(task); had != want {
		t.Fatalf("Forget(%d): %d; wanted %d", task, had, want)
	}
}

// some is a book in which two tasks had something in three groups, and one that is forgotten.
func some(t *testing.T) (*ledger.Book, view) {
	t.Helper()
	b := ledger.New()
	credit(t, b, []int{0, 7, 3}, 3, 5, api.OK)
	credit(t, b, []int{0, 7}, 0, 20, api.OK)
	credit(t, b, []int{0, 3}, 8, 100, api.OK)
	forget(t, b, 8, 100)
	want := view{map[int]int64{0: 20, 3: 5}, map[int]int64{0: 125, 3: 105, 7: 25}, 125}
	holds(t, "some", b, want)
	return b, want
}

// TestExamples holds P18.1 and P18.2 to the chapter's example.
func TestExamples(t *testing.T) {
	b := ledger.New()
	credit(t, b, []int{1, 2}, 3, 5, api.OK)
	holds(t, "the example", b, view{map[int]int64{3: 5}, map[int]int64{1: 5, 2: 5}, 5})
}

// TestNew holds that nobody had anything in a new book.
func TestNew(t *testing.T) {
	holds(t, "new", ledger.New(), view{})
}

// TestWay holds P18.1 and P18.2 along one way that is worked out by hand.
func TestWay(t *testing.T) {
	b := ledger.New()
	credit(t, b, []int{4, 0, 2}, 9, 10, api.OK)
	holds(t, "one", b, view{map[int]int64{9: 10}, map[int]int64{0: 10, 2: 10, 4: 10}, 10})
	credit(t, b, []int{2}, 9, 1, api.OK)
	holds(t, "the same task", b, view{map[int]int64{9: 11}, map[int]int64{0: 10, 2: 11, 4: 10}, 11})
	credit(t, b, []int{5, 2}, 1, 200, api.OK)
	holds(t, "another task", b, view{map[int]int64{1: 200, 9: 11}, map[int]int64{0: 10, 2: 211, 4: 10, 5: 200}, 211})
	credit(t, b, nil, 0, 3000, api.OK)
	holds(t, "in no group", b, view{map[int]int64{0: 3000, 1: 200, 9: 11}, map[int]int64{0: 10, 2: 211, 4: 10, 5: 200}, 3211})
	forget(t, b, 9, 11)
	holds(t, "forgotten", b, view{map[int]int64{0: 3000, 1: 200}, map[int]int64{0: 10, 2: 211, 4: 10, 5: 200}, 3211})
	forget(t, b, 9, 0)
	holds(t, "forgotten again", b, view{map[int]int64{0: 3000, 1: 200}, map[int]int64{0: 10, 2: 211, 4: 10, 5: 200}, 3211})
	credit(t, b, []int{0}, 9, 7, api.OK)
	holds(t, "anew", b, view{map[int]int64{0: 3000, 1: 200, 9: 7}, map[int]int64{0: 17, 2: 211, 4: 10, 5: 200}, 3218})
	forget(t, b, 9, 7)
	forget(t, b, 0, 3000)
	forget(t, b, 1, 200)
	holds(t, "all are forgotten", b, view{nil, map[int]int64{0: 17, 2: 211, 4: 10, 5: 200}, 3218})
}

// TestNothing holds P18.1 and P18.2 of 0 nanoseconds: who had no more is not told, and nobody else has less.
func TestNothing(t *testing.T) {
	b := ledger.New()
	credit(t, b, []int{1, 2}, 3, 0, api.OK)
	credit(t, b, nil, 0, 0, api.OK)
	holds(t, "nothing", b, view{})
	forget(t, b, 3, 0)
	holds(t, "nothing is forgotten", b, view{})
	b, want := some(t)
	credit(t, b, []int{7, 0}, 3, 0, api.OK)
	credit(t, b, []int{5}, 5, 0, api.OK)
	credit(t, b, []int{3}, 8, 0, api.OK)
	holds(t, "no more", b, want)
}

// TestWrong holds P18.1's first error, at each kind of wrong number, and where several are: nothing is changed.
func TestWrong(t *testing.T) {
	paths := [][]int{nil, {}, {0}, {3}, {0, 7, 3}, {9, 5}}
	twice := [][]int{{0, 0}, {3, 3}, {0, 3, 0}, {1, 2, 2}, {7, 7, 7}, {0, 1, 2, 3, 4, 5, 6, 7, 3}}
	for _, n := range below() {
		b, want := some(t)
		for _, path := range paths {
			for _, ns := range []int64{0, 1, 5, most} {
				credit(t, b, path, n, ns, api.ErrArg)
			}
			for _, task := range []int{0, 3, 5, n} {
				credit(t, b, path, task, int64(n), api.ErrArg)
			}
		}
		for _, path := range [][]int{{n}, {n, 0}, {0, n}, {0, n, 3}, {n, n}, {0, 0, n}} {
			for _, ns := range []int64{-1, 0, 1, most} {
				credit(t, b, path, 3, ns, api.ErrArg)
				credit(t, b, path, n, ns, api.ErrArg)
			}
		}
		holds(t, "below 0", b, want)
	}
	b, want := some(t)
	for _, path := range twice {
		for _, ns := range []int64{math.MinInt64, -1, 0, 1, most} {
			for _, task := range []int{-1, 0, 3, 5} {
				credit(t, b, path, task, ns, api.ErrArg)
			}
		}
	}
	holds(t, "twice", b, want)
}

// TestTwice holds P18.1 of paths of each length in which one is there twice, at each two places, and nowhere else; the same paths without it may be.
func TestTwice(t *testing.T) {
	far := apart()
	for n := range 25 {
		b := ledger.New()
		want := view{map[int]int64{}, map[int]int64{}, 0}
		path := make([]int, 0, n)
		for i := range n {
			path = append(path, far[(i*17+n)%len(far)])
		}
		for i := range n {
			for j := range n {
				bad := slices.Clone(path)
				bad[j] = bad[i]
				if i != j {
					credit(t, b, bad, 1, 1, api.ErrArg)
				}
			}
		}
		holds(t, "twice", b, want)
		credit(t, b, path, 1, 1, api.OK)
		want.tasks[1], want.total = 1, 1
		for _, group := range path {
			want.groups[group] = 1
		}
		holds(t, "once", b, want)
	}
}

// TestBelow holds P18.1 of paths of each length in which one is below 0, at each place.
func TestBelow(t *testing.T) {
	for n := range 20 {
		b := ledger.New()
		for i := range n {
			for _, bad := range below() {
				path := make([]int, 0, n)
				for k := range n {
					path = append(path, (k*7+n)%23)
				}
				path[i] = bad
				credit(t, b, path, 1, 1, api.ErrArg)
			}
		}
		holds(t, "below 0", b, view{})
	}
}

// TestLong holds P18.1 of long paths, however their numbers stand: falling, rising, or neither; of two that are alike, the one stands at the start, the other at the end.
func TestLong(t *testing.T) {
	const n = 20000
	b := ledger.New()
	up, down, mixed := make([]int, n), make([]int, n), make([]int, n)
	for i := range n {
		up[i], down[i], mixed[i] = i, n-1-i, i*7919%n
	}
	for _, path := range [][]int{up, down, mixed} {
		credit(t, b, append(slices.Clone(path), path[0]), 5, 1, api.ErrArg)
		credit(t, b, append(slices.Clone(path), -1), 5, 1, api.ErrArg)
		credit(t, b, path, 5, 3, api.OK)
	}
	want := view{map[int]int64{5: 9}, map[int]int64{}, 9}
	for i := range n {
		want.groups[i] = 9
	}
	holds(t, "long", b, want)
}

// TestApart holds P18.1 and P18.2 of tasks and groups of all sizes: each one has an account for itself, and a task none with a group of its number.
func TestApart(t *testing.T) {
	far := apart()
	b := ledger.New()
	want := view{map[int]int64{}, map[int]int64{}, 0}
	for i := range far {
		// From the last one on, so that Tasks is not told as they came.
		task, group, ns := far[len(far)-1-i], far[(i*17+5)%len(far)], int64(1)<<i
		credit(t, b, []int{group}, task, ns, api.OK)
		want.tasks[task], want.groups[group], want.total = ns, ns, want.total+ns
		holds(t, "apart", b, want)
	}
	for i := range far {
		task := far[i*17%len(far)]
		forget(t, b, task, want.tasks[task])
		delete(want.tasks, task)
		holds(t, "forgotten", b, want)
	}
}

// TestForgetNone holds P18.2 of Forget of who had nothing, and of numbers that nobody has: nothing is changed.
func TestForgetNone(t *testing.T) {
	b, want := some(t)
	for _, n := range append(below(), 1, 7, 8, 9, 64, 256, 1<<32, 1<<32+3, math.MaxInt) {
		forget(t, b, n, 0)
		holds(t, "forgotten", b, want)
	}
}

// TestEnds holds P18.1's second error where Total is at its end, just below, and far: nothing is changed then, and what is wrong is told first.
func TestEnds(t *testing.T) {
	for _, left := range []int64{0, 1, 2, 5, 1 << 31, 1 << 32, 1<<62 - 1, 1 << 62, most - 1, most} {
		b := ledger.New()
		credit(t, b, []int{2, 0}, 4, most-left, api.OK)
		want := view{map[int]int64{4: most - left}, map[int]int64{0: most - left, 2: most - left}, most - left}
		for _, more := range []int64{1, 2, 1 << 32, most} {
			if more > most-left {
				continue // both together are beyond any number that may be handed in
			}
			credit(t, b, []int{2, 0}, 4, left+more, api.ErrFull)
			credit(t, b, []int{1}, 1, left+more, api.ErrFull)
			credit(t, b, nil, 4, left+more, api.ErrFull)
			credit(t, b, []int{1, 1}, 1, left+more, api.ErrArg)
			credit(t, b, []int{-1}, 1, left+more, api.ErrArg)
			credit(t, b, nil, -1, left+more, api.ErrArg)
		}
		credit(t, b, nil, 4, -1, api.ErrArg)
		credit(t, b, nil, 4, math.MinInt64, api.ErrArg)
		credit(t, b, []int{5}, 5, 0, api.OK)
		holds(t, "full", b, want)
		// What is forgotten makes no room: Total keeps it.
		forget(t, b, 4, most-left)
		if left < most {
			credit(t, b, []int{2}, 6, left+1, api.ErrFull)
		}
		credit(t, b, []int{2}, 6, left, api.OK)
		credit(t, b, []int{2}, 6, 1, api.ErrFull)
		credit(t, b, []int{2}, 6, 0, api.OK)
		holds(t, "the last", b, view{map[int]int64{6: left}, map[int]int64{0: most - left, 2: most}, most})
	}
}

// TestManyEnds holds P18.1 where Total comes to its end by many that had far less.
func TestManyEnds(t *testing.T) {
	b := ledger.New()
	want := view{map[int]int64{}, map[int]int64{}, 0}
	for i := 62; i >= 0; i-- {
		credit(t, b, []int{9}, i, 1<<62, []api.Errno{api.ErrFull, api.OK}[i/62])
		if i < 62 {
			credit(t, b, []int{9, i % 3}, i, 1<<i, api.OK)
			want.groups[i%3] += 1 << i
		}
		want.tasks[i] += 1 << i
		want.groups[9] += 1 << i
		want.total += 1 << i
		holds(t, "more", b, want)
	}
	if want.total != most {
		t.Fatalf("the sum is %d", want.total)
	}
	credit(t, b, nil, 0, 1, api.ErrFull)
	holds(t, "full", b, want)
}

// TestNil holds P18.2's last words and P1, of a book that is nil; a zero one is not asked anything (R5), but does not panic either.
func TestNil(t *testing.T) {
	for _, b := range []*ledger.Book{nil, {}} {
		for _, path := range [][]int{nil, {}, {0}, {1, 2}, {1, 1}, {-1}} {
			for _, n := range []int{math.MinInt, -1, 0, 1, math.MaxInt} {
				for _, ns := range []int64{math.MinInt64, -1, 0, 1, most} {
					credit(t, b, path, n, ns, api.ErrArg)
				}
				forget(t, b, n, 0)
			}
		}
		holds(t, "nil", b, view{})
	}
}

// TestOwn holds R3: a path may be written over when it was handed in, Tasks when it was told, and no two books share anything.
func TestOwn(t *testing.T) {
	b, want := some(t)
	other, same := some(t)
	path := []int{7, 0, 3, 5}[:3]
	credit(t, b, path, 4, 1000, api.OK)
	path[0], path[1], path[2] = 9, 9, -1
	want.tasks[4] = 1000
	want.total += 1000
	for _, group := range []int{0, 3, 7} {
		want.groups[group] += 1000
	}
	holds(t, "the path", b, want)
	one, two := b.Tasks(), b.Tasks()
	for i := range one[:cap(one)] {
		one[:cap(one)][i] = 77
	}
	if !slices.Equal(two, []int{0, 3, 4}) {
		t.Errorf("Tasks: %v", two)
	}
	holds(t, "Tasks", b, want)
	holds(t, "the other book", other, same)
	holds(t, "a new one", ledger.New(), view{})
}

// TestAgain holds R2 and R4: nil and empty paths are the same, what is asked twice is told twice, and the order of a path says nothing.
func TestAgain(t *testing.T) {
	b, want := some(t)
	for range 3 {
		for _, path := range [][]int{nil, {}, make([]int, 0, 3)} {
			credit(t, b, path, 3, 6, api.OK)
			want.tasks[3] += 6
			want.total += 6
			holds(t, "no group", b, want)
			holds(t, "again", b, want)
		}
		for _, path := range [][]int{{1, 6, 11}, {1, 11, 6}, {6, 1, 11}, {6, 11, 1}, {11, 1, 6}, {11, 6, 1}} {
			credit(t, b, path, 12, 2, api.OK)
			for _, group := range path {
				want.groups[group] += 2
			}
			want.tasks[12] += 2
			want.total += 2
			holds(t, "three groups", b, want)
		}
	}
}
