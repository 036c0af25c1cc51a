package renorm_test

import (
	"math"
	"math/big"
	"slices"
	"testing"

	"dole/renorm"
)

const (
	least    = math.MinInt64
	greatest = math.MaxInt64
	credits  = 1 << 40 // the greatest credit, by the chapter's words
)

func big64(n int64) *big.Int { return big.NewInt(n) }

// apart is a less b, without an end.
func apart(a, b int64) *big.Int { return new(big.Int).Sub(big64(a), big64(b)) }

// hold is a number held to int64's ends, and whether it had to be, apart from what the program calls.
func hold(z *big.Int) (int64, bool) {
	if z.IsInt64() {
		return z.Int64(), false
	}
	if z.Sign() < 0 {
		return least, true
	}
	return greatest, true
}

func wantOff(v, min int64) (int64, bool) { return hold(apart(v, min)) }

func wantOn(off, min int64) (int64, bool) { return hold(new(big.Int).Add(big64(off), big64(min))) }

func wantWake(own, min, credit int64) int64 {
	if credit < 0 {
		credit = 0
	}
	if credit > credits {
		credit = credits
	}
	low, _ := wantOff(min, credit)
	if own > low {
		return own
	}
	return low
}

func wantHigher(min int64, vs []int64) int64 {
	for _, v := range vs {
		if v <= min {
			return min
		}
	}
	out := min
	for i, v := range vs {
		if i == 0 || v < out {
			out = v
		}
	}
	return out
}

// numbers are both ends and zero, powers of two among them, each with its neighbours, and some ordinary numbers: rising, each once.
func numbers() []int64 {
	l := []int64{10, -10, 1000003, -1000003}
	for _, n := range []int64{0, 100, -100, 1 << 31, -1 << 31, 1 << 40, -1 << 40, 1 << 62, -1 << 62} {
		l = append(l, n-1, n, n+1)
	}
	l = append(l, least, least+1, least+2, least+credits-1, least+credits, least+credits+1)
	l = append(l, greatest, greatest-1, greatest-2, greatest-credits-1, greatest-credits, greatest-credits+1)
	slices.Sort(l)
	return slices.Compact(l)
}

// scattered are numbers of all sizes without a pattern, the same ones each time.
func scattered(n int) []int64 {
	l := make([]int64, 0, n)
	x := uint64(88172645463325252)
	for range n {
		x ^= x << 13
		x ^= x >> 7
		x ^= x << 17
		l = append(l, int64(x)>>(x%64))
	}
	return l
}

// triples calls f with each three of numbers, and with neighbours of scattered.
func triples(f func(a, b, c int64)) {
	l := numbers()
	for _, a := range l {
		for _, b := range l {
			for _, c := range l {
				f(a, b, c)
			}
		}
	}
	s := scattered(20000)
	for i := range len(s) - 2 {
		f(s[i], s[i+1], s[i+2])
	}
}

// TestExamples holds P7.1 to the chapter's examples.
func TestExamples(t *testing.T) {
	if n := renorm.Wake(3, 10, 4); n != 6 {
		t.Errorf("Wake(3, 10, 4): %d", n)
	}
	if n := renorm.Wake(9, 10, 4); n != 9 {
		t.Errorf("Wake(9, 10, 4): %d", n)
	}
	if n, over := renorm.Move(12, 10, 100); n != 102 || over {
		t.Errorf("Move(12, 10, 100): %d, %v", n, over)
	}
	if n := renorm.Higher(5, []int64{7, 9}); n != 7 {
		t.Errorf("Higher(5, [7, 9]): %d", n)
	}
	if n := renorm.Higher(8, []int64{7, 9}); n != 8 {
		t.Errorf("Higher(8, [7, 9]): %d", n)
	}
}

// TestWakeNamed holds P7.1 of Wake at numbers worked out by hand.
func TestWakeNamed(t *testing.T) {
	for _, table := range []struct {
		name string
		rows [][4]int64 // own, min, credit; wanted
	}{
		{"own around min less credit", [][4]int64{
			{6, 10, 4, 6}, {5, 10, 4, 6}, {7, 10, 4, 7}, {10, 10, 4, 10}, {11, 10, 4, 11}, {-50, 10, 4, 6}, {50, 10, 4, 50},
			{-2, 2, 4, -2}, {-3, 2, 4, -2}, {-1, 2, 4, -1}, {-14, -10, 4, -14}, {-15, -10, 4, -14}, {-13, -10, 4, -13},
			{least, 10, 4, 6}, {greatest, 10, 4, greatest},
		}},
		{"a credit below 0", [][4]int64{
			{3, 10, -1, 10}, {9, 10, -1, 10}, {10, 10, -1, 10}, {11, 10, -1, 11}, {12, 10, -4, 12}, {3, 10, -credits, 10}, {3, 10, least, 10},
			{least, least, -1, least}, {least, least, least, least}, {least, greatest, -1, greatest}, {greatest, greatest, least, greatest},
		}},
		{"a credit of 0", [][4]int64{
			{3, 10, 0, 10}, {9, 10, 0, 10}, {10, 10, 0, 10}, {11, 10, 0, 11}, {0, 0, 0, 0},
			{least, least, 0, least}, {least + 1, least, 0, least + 1}, {least, greatest, 0, greatest}, {greatest, least, 0, greatest},
		}},
		{"a credit of 2^40, and one below it", [][4]int64{
			{0, credits + 5, credits, 5}, {4, credits + 5, credits, 5}, {5, credits + 5, credits, 5}, {6, credits + 5, credits, 6},
			{0, credits + 5, credits - 1, 6}, {0, 0, credits, 0}, {least, 0, credits, -credits}, {-credits - 1, 0, credits, -credits}, {-credits + 1, 0, credits, -credits + 1},
			{least, greatest, credits, greatest - credits},
		}},
		{"a credit above 2^40", [][4]int64{
			{0, credits + 5, credits + 1, 5}, {4, credits + 5, credits + 1, 5}, {6, credits + 5, credits + 1, 6}, {0, credits + 5, 2 * credits, 5}, {0, credits + 5, greatest, 5},
			{least, 0, greatest, -credits}, {least, greatest, greatest, greatest - credits}, {least, greatest, credits + 1, greatest - credits},
		}},
		{"min less credit at the low end, or below it", [][4]int64{
			{least, least + 5, 4, least + 1}, {least, least + 4, 4, least}, {least, least + 3, 4, least}, {least, least, 1, least},
			{least + 1, least + 3, 4, least + 1}, {least + 1, least, 1, least + 1}, {0, least, 1, 0}, {0, least, credits, 0}, {greatest, least, greatest, greatest},
			{least, least + credits + 1, credits, least + 1}, {least, least + credits, credits, least}, {least, least + credits - 1, credits, least},
			{least, least + credits + 1, greatest, least + 1}, {least, least, greatest, least}, {least + 7, least, credits, least + 7},
		}},
	} {
		for _, r := range table.rows {
			if n := renorm.Wake(r[0], r[1], r[2]); n != r[3] {
				t.Errorf("%s: Wake(%d, %d, %d): %d; wanted %d", table.name, r[0], r[1], r[2], n, r[3])
			}
		}
	}
}

// pair is two numbers handed in, and what is wanted of them.
type pair struct {
	a, b, want int64
	over       bool
}

func holdPairs(t *testing.T, name string, call func(a, b int64) (int64, bool), rows []pair) {
	t.Helper()
	for _, r := range rows {
		if n, over := call(r.a, r.b); n != r.want || over != r.over {
			t.Errorf("%s(%d, %d): %d, %v; wanted %d, %v", name, r.a, r.b, n, over, r.want, r.over)
		}
	}
}

// TestOffNamed holds P7.1 of Off at numbers worked out by hand: within, at, and just beyond both ends.
func TestOffNamed(t *testing.T) {
	holdPairs(t, "Off", renorm.Off, []pair{
		{12, 10, 2, false}, {8, 10, -2, false}, {10, 10, 0, false}, {0, 0, 0, false}, {-5, -9, 4, false}, {-9, -5, -4, false}, {7, -7, 14, false},
		{least, least, 0, false}, {greatest, greatest, 0, false}, {least, 0, least, false}, {greatest, 0, greatest, false}, {0, greatest, -greatest, false},
		{-1, least, greatest, false}, {greatest - 1, -1, greatest, false}, {-1, greatest, least, false}, {least + 1, 1, least, false},
		{greatest, -1, greatest, true}, {0, least, greatest, true}, {1, least, greatest, true}, {greatest, least, greatest, true},
		{least, 1, least, true}, {-2, greatest, least, true}, {least, greatest, least, true}, {least + 1, 2, least, true},
	})
}

// TestOnNamed holds P7.1 of On likewise.
func TestOnNamed(t *testing.T) {
	holdPairs(t, "On", renorm.On, []pair{
		{2, 100, 102, false}, {-2, 100, 98, false}, {0, 100, 100, false}, {0, 0, 0, false}, {-4, -5, -9, false}, {14, -7, 7, false},
		{least, 0, least, false}, {greatest, 0, greatest, false}, {0, least, least, false}, {0, greatest, greatest, false}, {greatest, least, -1, false}, {least, greatest, -1, false},
		{greatest - 1, 1, greatest, false}, {1, greatest - 1, greatest, false}, {least + 1, -1, least, false}, {-1, least + 1, least, false},
		{greatest, 1, greatest, true}, {1, greatest, greatest, true}, {greatest, greatest, greatest, true}, {1 << 62, 1 << 62, greatest, true},
		{least, -1, least, true}, {-1, least, least, true}, {least, least, least, true}, {-1 << 62, -1<<62 - 1, least, true},
	})
}

// TestMoveNamed holds P7.1 of Move at numbers worked out by hand: where nothing runs over, where one step alone does, and where both do, at each end.
func TestMoveNamed(t *testing.T) {
	type row struct{ v, from, to, want int64 }
	for _, table := range []struct {
		name string
		over bool
		rows []row
	}{
		{"nothing runs over", false, []row{
			{12, 10, 100, 102}, {8, 10, 100, 98}, {10, 10, 100, 100}, {12, 10, -100, -98}, {12, 10, 10, 12}, {-3, -10, 0, 7}, {0, 0, 0, 0},
			{greatest, greatest, least, least}, {least, least, greatest, greatest}, {greatest, greatest, greatest, greatest}, {least, least, least, least},
			{greatest, 0, 0, greatest}, {least, 0, 0, least}, {-1, least, 0, greatest}, {-1, greatest, 0, least}, {-1, least, least, -1}, {-1, greatest, greatest, -1},
			{greatest, 0, least, -1}, {least, 0, greatest, -1}, {12, 10, greatest - 2, greatest}, {8, 10, least + 2, least}, {greatest - 1, -1, 0, greatest}, {least + 1, 1, 0, least},
		}},
		{"the first step alone, at the high end", true, []row{
			{greatest, -1, 0, greatest}, {greatest, -1, -1, greatest - 1}, {0, least, 0, greatest}, {0, least, -7, greatest - 7}, {greatest, least, 0, greatest}, {greatest, least, least, -1},
		}},
		{"the first step alone, at the low end", true, []row{
			{least, 1, 0, least}, {least, 1, 1, least + 1}, {-2, greatest, 0, least}, {-2, greatest, 7, least + 7}, {least, greatest, 0, least}, {least, greatest, greatest, -1},
		}},
		{"the second step alone, at the high end", true, []row{
			{12, 10, greatest - 1, greatest}, {12, 10, greatest, greatest}, {greatest, 0, 1, greatest}, {greatest, 0, greatest, greatest}, {-1, least, 1, greatest}, {-1, least, greatest, greatest},
		}},
		{"the second step alone, at the low end", true, []row{
			{8, 10, least + 1, least}, {8, 10, least, least}, {least, 0, -1, least}, {least, 0, least, least}, {-1, greatest, -1, least}, {-1, greatest, least, least},
		}},
		{"both steps, at the high end", true, []row{
			{greatest, -1, 1, greatest}, {0, least, 1, greatest}, {greatest, least, 1, greatest}, {greatest, least, greatest, greatest}, {greatest, -1, greatest, greatest},
		}},
		{"both steps, at the low end", true, []row{
			{least, 1, -1, least}, {-2, greatest, -1, least}, {least, greatest, -1, least}, {least, greatest, least, least}, {least, 1, least, least},
		}},
	} {
		for _, r := range table.rows {
			if n, over := renorm.Move(r.v, r.from, r.to); n != r.want || over != table.over {
				t.Errorf("%s: Move(%d, %d, %d): %d, %v; wanted %d, %v", table.name, r.v, r.from, r.to, n, over, r.want, table.over)
			}
		}
	}
}

// TestExact holds P7.1 of Wake, Off, On and Move at many numbers, against numbers without an end.
func TestExact(t *testing.T) {
	triples(func(a, b, c int64) {
		if n, want := renorm.Wake(a, b, c), wantWake(a, b, c); n != want {
			t.Fatalf("Wake(%d, %d, %d): %d; wanted %d", a, b, c, n, want)
		}
		off, offOver := wantOff(a, b)
		if n, over := renorm.Off(a, b); n != off || over != offOver {
			t.Fatalf("Off(%d, %d): %d, %v; wanted %d, %v", a, b, n, over, off, offOver)
		}
		on, onOver := wantOn(off, c)
		if n, over := renorm.On(off, c); n != on || over != onOver {
			t.Fatalf("On(%d, %d): %d, %v; wanted %d, %v", off, c, n, over, on, onOver)
		}
		if n, over := renorm.Move(a, b, c); n != on || over != (offOver || onOver) {
			t.Fatalf("Move(%d, %d, %d): %d, %v; wanted %d, %v", a, b, c, n, over, on, offOver || onOver)
		}
	})
}

// TestMovedLiesAsFar holds P7.2: what is moved lies as far behind the new least one as it did behind the old one, unless it is told that something ran over; and it never does when that is told.
func TestMovedLiesAsFar(t *testing.T) {
	triples(func(v, from, to int64) {
		n, over := renorm.Move(v, from, to)
		if as := apart(n, to).Cmp(apart(v, from)) == 0; as == over {
			t.Fatalf("Move(%d, %d, %d): %d, %v", v, from, to, n, over)
		}
	})
}

// TestMovedBack holds P7.2: what is moved without running over is moved back as it was, and nothing runs over on that way; likewise by Off and On on one queue.
func TestMovedBack(t *testing.T) {
	triples(func(v, from, to int64) {
		n, over := renorm.Move(v, from, to)
		if back, backOver := renorm.Move(n, to, from); !over && (back != v || backOver) {
			t.Fatalf("Move(%d, %d, %d): %d; back: %d, %v", v, from, to, n, back, backOver)
		}
		off, over := renorm.Off(v, from)
		if back, backOver := renorm.On(off, from); !over && (back != v || backOver) {
			t.Fatalf("Off(%d, %d): %d; On again: %d, %v", v, from, off, back, backOver)
		}
	})
}

// TestMovedAlong holds P7.2 of a way over many queues, and back over the same ones.
func TestMovedAlong(t *testing.T) {
	mins := scattered(200)
	for i := range mins {
		mins[i] >>= 2
	}
	for _, start := range []int64{mins[0], mins[0] + 1, mins[0] - credits, mins[0] + 1<<60, mins[0] - 1<<60} {
		v := start
		for i := 1; i < len(mins); i++ {
			n, over := renorm.Move(v, mins[i-1], mins[i])
			if over || apart(n, mins[i]).Cmp(apart(start, mins[0])) != 0 {
				t.Fatalf("Move(%d, %d, %d): %d, %v; it began at %d, the least one at %d", v, mins[i-1], mins[i], n, over, start, mins[0])
			}
			v = n
		}
		for i := len(mins) - 1; i > 0; i-- {
			v, _ = renorm.Move(v, mins[i], mins[i-1])
		}
		if v != start {
			t.Errorf("from %d on, and back: %d", start, v)
		}
	}
}

// TestMovedAlike holds P7.2 of two that are moved from one queue to another: they lie as far from each other as they did, unless something ran over; and none comes ahead of the other that was not.
func TestMovedAlike(t *testing.T) {
	l := numbers()
	hold := func(v, w, from, to int64) {
		n, nOver := renorm.Move(v, from, to)
		m, mOver := renorm.Move(w, from, to)
		if !nOver && !mOver && apart(n, m).Cmp(apart(v, w)) != 0 {
			t.Fatalf("from %d to %d: %d and %d come to %d and %d", from, to, v, w, n, m)
		}
		if v <= w && n > m || v == w && n != m {
			t.Fatalf("from %d to %d: %d and %d come to %d and %d, in another order", from, to, v, w, n, m)
		}
	}
	for i, v := range l {
		for _, w := range l[i:] {
			for _, from := range l {
				hold(v, w, from, 0)
				hold(v, w, from, from)
				hold(v, w, 0, from)
				hold(v, w, from, -(from + 1))
				hold(v, w, 10, from)
			}
		}
	}
}

// TestHigherNamed holds P7.1 of Higher at numbers worked out by hand, R2 among them.
func TestHigherNamed(t *testing.T) {
	for _, r := range []struct {
		name string
		min  int64
		vs   []int64
		want int64
	}{
		{"nil", 5, nil, 5}, {"nil", 0, nil, 0}, {"nil", -5, nil, -5}, {"nil", least, nil, least}, {"nil", greatest, nil, greatest},
		{"empty", 5, []int64{}, 5}, {"empty", -5, []int64{}, -5}, {"empty", least, []int64{}, least}, {"empty", greatest, []int64{}, greatest},
		{"none, with room", 5, make([]int64, 0, 4), 5}, {"none, with room", -5, make([]int64, 0, 4), -5},
		{"one, above", 5, []int64{7}, 7}, {"one, at", 7, []int64{7}, 7}, {"one, below", 8, []int64{7}, 8}, {"one, below 0", -8, []int64{-7}, -7},
		{"one, one above", 6, []int64{7}, 7}, {"one, at 0", -1, []int64{0}, 0}, {"one, at 0", 1, []int64{0}, 1},
		{"the least first", 5, []int64{7, 9, 8}, 7}, {"the least first", 7, []int64{7, 9, 8}, 7}, {"the least first", 8, []int64{7, 9, 8}, 8}, {"the least first", 10, []int64{7, 9, 8}, 10},
		{"the least last", 5, []int64{9, 8, 7}, 7}, {"the least last", 7, []int64{9, 8, 7}, 7}, {"the least last", 8, []int64{9, 8, 7}, 8}, {"the least last", 6, []int64{8, 9, 7}, 7},
		{"the least between", 5, []int64{9, 7, 8}, 7}, {"the least between", 7, []int64{9, 7, 8}, 7}, {"the least between", 8, []int64{9, 7, 8}, 8}, {"the least between", 6, []int64{8, 9, 7, 10, 9}, 7},
		{"the least twice", 5, []int64{7, 9, 7}, 7}, {"all the same", 5, []int64{7, 7, 7}, 7}, {"all the same", 9, []int64{7, 7, 7}, 9},
		{"below 0", -9, []int64{-3, -7, 4}, -7}, {"below 0", -5, []int64{-3, -7, 4}, -5},
		{"the low end", least, []int64{least}, least}, {"the low end", least, []int64{least, greatest}, least}, {"the low end", least, []int64{greatest, least + 1}, least + 1},
		{"the low end", 3, []int64{7, least, 9}, 3}, {"the low end", greatest, []int64{least}, greatest}, {"the low end", least, []int64{7, 0}, 0},
		{"the high end", greatest, []int64{greatest}, greatest}, {"the high end", 3, []int64{greatest}, greatest}, {"the high end", least, []int64{greatest, greatest}, greatest},
		{"the high end", greatest, []int64{7, 9}, greatest}, {"the high end", greatest - 1, []int64{greatest}, greatest}, {"the high end", 3, []int64{greatest, 7}, 7},
	} {
		was := slices.Clone(r.vs)
		if n := renorm.Higher(r.min, r.vs); n != r.want {
			t.Errorf("%s: Higher(%d, %v): %d; wanted %d", r.name, r.min, was, n, r.want)
		}
	}
}

// TestHigherExact holds P7.1 of Higher at lists of all short lengths, with the least one at each place, and of a long one.
func TestHigherExact(t *testing.T) {
	hold := func(min int64, vs []int64) {
		if n, want := renorm.Higher(min, vs), wantHigher(min, vs); n != want {
			t.Fatalf("Higher(%d, %v): %d; wanted %d", min, vs, n, want)
		}
	}
	for count := range 20 {
		for at := range count {
			for _, low := range numbers() {
				vs := make([]int64, count)
				for i := range vs {
					vs[i] = max(low, low+int64(i+1))
				}
				vs[at] = low
				for _, min := range numbers() {
					hold(min, vs)
				}
				hold(max(least+1, low)-1, vs)
				hold(low, vs)
				hold(min(greatest-1, low)+1, vs)
			}
		}
	}
	s := scattered(4000)
	for i := range s {
		hold(s[len(s)-1-i], s[i/2:i])
	}
	long := make([]int64, 100000)
	for i := range long {
		long[i] = int64(200000 - i)
	}
	hold(0, long)
	hold(100001, long)
	hold(100002, long)
}

// TestHigherLeavesTheList holds R3: what is handed in stays as it is, what lies in its room behind its end among it, which counts for nothing either.
func TestHigherLeavesTheList(t *testing.T) {
	for _, count := range []int{0, 1, 2, 5, 60} {
		whole := scattered(64)
		whole[63] = least
		was := slices.Clone(whole)
		for _, min := range numbers() {
			if n, want := renorm.Higher(min, whole[:count]), wantHigher(min, was[:count]); n != want {
				t.Fatalf("Higher(%d, %v): %d; wanted %d", min, was[:count], n, want)
			}
			if !slices.Equal(whole, was) {
				t.Fatalf("Higher(%d, ..) of %d has changed them", min, count)
			}
		}
	}
}

// TestHigherKeepsNothing holds R3 and R4: a list that its owner changes behind the call is asked as it is then.
func TestHigherKeepsNothing(t *testing.T) {
	vs := []int64{7, 9}
	for _, low := range []int64{7, 30, 4, 12} {
		vs[0], vs[1] = low+2, low
		if n := renorm.Higher(5, vs); n != max(5, low) {
			t.Errorf("Higher(5, %v): %d", vs, n)
		}
	}
}

// TestSameAgain holds R4: what was asked ahead changes no answer.
func TestSameAgain(t *testing.T) {
	type asked struct {
		wake, off, on, move, higher int64
		offOver, onOver, moveOver   bool
	}
	ask := func(l []int64) []asked {
		var out []asked
		for i, a := range l {
			b, c := l[(i+17)%len(l)], l[(i+40)%len(l)]
			var x asked
			x.wake, x.higher = renorm.Wake(a, b, c), renorm.Higher(a, l[i:])
			x.off, x.offOver = renorm.Off(a, b)
			x.on, x.onOver = renorm.On(a, b)
			x.move, x.moveOver = renorm.Move(a, b, c)
			out = append(out, x)
		}
		return out
	}
	l := append(numbers(), scattered(300)...)
	first := ask(l)
	back := slices.Clone(l)
	slices.Reverse(back)
	ask(back)
	if !slices.Equal(first, ask(l)) {
		t.Error("the same numbers have other answers the second time")
	}
}
