package fix_test

import (
	"math"
	"math/big"
	"slices"
	"testing"

	"dole/fix"
)

const (
	least    = math.MinInt64
	greatest = math.MaxInt64
)

// checked is what Add, Sub and Mul look like, held what Sat and Less do.
type (
	checked func(a, b int64) (int64, bool)
	held    func(a, b int64) int64
	exact   func(z, x, y *big.Int) *big.Int
)

func big64(n int64) *big.Int { return big.NewInt(n) }

// numbers are all powers of two, their neighbours, both ends with theirs, and some ordinary numbers: rising, each once.
func numbers() []int64 {
	l := []int64{0, 3, 10, -10, 1000003, -1000003, 3037000499, 3037000500, -3037000499, -3037000500, least, least + 1, least + 2, greatest}
	for i := range 63 {
		p := int64(1) << i
		l = append(l, p-1, p, p+1, -p-1, -p, -p+1)
	}
	slices.Sort(l)
	return slices.Compact(l)
}

// scattered are numbers of all sizes without a pattern, the same ones each time.
func scattered(n int) []int64 {
	l := make([]int64, 0, n)
	x := uint64(88172645463325252)
	for range n {
		x ^= x << 13
		x ^= x >> 7
		x ^= x << 17
		l = append(l, int64(x)>>(x%64))
	}
	return l
}

// pairs calls f with each two of numbers, and with neighbours of scattered.
func pairs(f func(a, b int64)) {
	l := numbers()
	for _, a := range l {
		for _, b := range l {
			f(a, b)
		}
	}
	s := scattered(20000)
	for i := range len(s) - 1 {
		f(s[i], s[i+1])
	}
}

// TestCheckedNamed holds P1.1 at numbers worked out by hand: within, just within, and just beyond both ends.
func TestCheckedNamed(t *testing.T) {
	type row struct {
		a, b, want int64
		is         bool
	}
	tables := []struct {
		name string
		call checked
		rows []row
	}{
		{"Add", fix.Add, []row{
			{2, 3, 5, true}, {-2, -3, -5, true}, {0, 0, 0, true}, {7, -7, 0, true},
			{greatest, 0, greatest, true}, {least, 0, least, true}, {greatest, least, -1, true},
			{greatest - 1, 1, greatest, true}, {least + 1, -1, least, true},
			{greatest, 1, 0, false}, {1, greatest, 0, false}, {greatest, greatest, 0, false},
			{least, -1, 0, false}, {-1, least, 0, false}, {least, least, 0, false},
			{1 << 62, 1 << 62, 0, false}, {-1 << 62, -1 << 62, least, true}, {1 << 62, 1<<62 - 1, greatest, true},
		}},
		{"Sub", fix.Sub, []row{
			{2, 3, -1, true}, {3, -2, 5, true}, {0, 0, 0, true}, {least, least, 0, true}, {greatest, greatest, 0, true},
			{greatest - 1, -1, greatest, true}, {least + 1, 1, least, true}, {-1, least, greatest, true}, {-1, greatest, least, true},
			{greatest, -1, 0, false}, {least, 1, 0, false}, {0, least, 0, false}, {-2, greatest, 0, false},
			{0, greatest, -greatest, true}, {least, greatest, 0, false}, {greatest, least, 0, false},
		}},
		{"Mul", fix.Mul, []row{
			{6, 7, 42, true}, {-6, 7, -42, true}, {-6, -7, 42, true}, {0, least, 0, true}, {least, 0, 0, true},
			{least, 1, least, true}, {1, least, least, true}, {greatest, -1, -greatest, true}, {-1, greatest, -greatest, true},
			{least, -1, 0, false}, {-1, least, 0, false}, {least, least, 0, false}, {greatest, greatest, 0, false}, {least, 2, 0, false},
			{-1 << 32, 1 << 31, least, true}, {1 << 32, 1 << 31, 0, false}, {1 << 32, 1 << 32, 0, false}, {-1 << 32, -1 << 31, 0, false},
			{3037000499, 3037000499, 9223372030926249001, true}, {3037000500, 3037000500, 0, false},
			{7, 1317624576693539401, greatest, true}, {greatest, 2, 0, false}, {1 << 62, 2, 0, false}, {-1 << 62, 2, least, true},
		}},
	}
	for _, table := range tables {
		for _, r := range table.rows {
			if n, is := table.call(r.a, r.b); n != r.want || is != r.is {
				t.Errorf("%s(%d, %d): %d, %v; wanted %d, %v", table.name, r.a, r.b, n, is, r.want, r.is)
			}
		}
	}
}

// TestHeldNamed holds P1.1 for Sat and Less at numbers worked out by hand.
func TestHeldNamed(t *testing.T) {
	type row struct{ a, b, want int64 }
	tables := []struct {
		name string
		call held
		rows []row
	}{
		{"Sat", fix.Sat, []row{
			{2, 3, 5}, {-2, -3, -5}, {greatest, least, -1}, {greatest - 1, 1, greatest}, {least + 1, -1, least},
			{greatest, 1, greatest}, {1, greatest, greatest}, {greatest, greatest, greatest},
			{least, -1, least}, {-1, least, least}, {least, least, least},
		}},
		{"Less", fix.Less, []row{
			{2, 3, -1}, {3, -2, 5}, {least, least, 0}, {-1, least, greatest}, {-1, greatest, least}, {least + 1, 1, least},
			{greatest, -1, greatest}, {0, least, greatest}, {greatest, least, greatest},
			{least, 1, least}, {-2, greatest, least}, {least, greatest, least},
		}},
	}
	for _, table := range tables {
		for _, r := range table.rows {
			if n := table.call(r.a, r.b); n != r.want {
				t.Errorf("%s(%d, %d): %d; wanted %d", table.name, r.a, r.b, n, r.want)
			}
		}
	}
}

// TestHoldNamed holds P1.1 for Hold: within, at and beyond both ends, and with low above high.
func TestHoldNamed(t *testing.T) {
	rows := []struct{ n, low, high, want int64 }{
		{7, 1, 5, 5}, {0, 1, 5, 1}, {3, 1, 5, 3}, {1, 1, 5, 1}, {5, 1, 5, 5}, {6, 1, 5, 5}, {4, 4, 4, 4}, {3, 4, 4, 4}, {5, 4, 4, 4},
		{-3, -5, -1, -3}, {-6, -5, -1, -5}, {0, -5, -1, -1},
		{least, least, greatest, least}, {greatest, least, greatest, greatest}, {0, least, greatest, 0},
		{least, least + 1, greatest, least + 1}, {greatest, least, greatest - 1, greatest - 1},
		{3, 5, 1, 5}, {0, 5, 1, 5}, {5, 5, 1, 1}, {7, 5, 1, 1}, {4, 5, 1, 5},
		{0, greatest, least, greatest}, {greatest, greatest, least, least}, {least, greatest, least, greatest},
	}
	for _, r := range rows {
		if n := fix.Hold(r.n, r.low, r.high); n != r.want {
			t.Errorf("Hold(%d, %d, %d): %d; wanted %d", r.n, r.low, r.high, n, r.want)
		}
	}
}

// TestCheckedExact holds P1.1 against numbers without an end.
func TestCheckedExact(t *testing.T) {
	calls := []struct {
		name string
		call checked
		math exact
	}{{"Add", fix.Add, (*big.Int).Add}, {"Sub", fix.Sub, (*big.Int).Sub}, {"Mul", fix.Mul, (*big.Int).Mul}}
	var z big.Int
	for _, c := range calls {
		pairs(func(a, b int64) {
			c.math(&z, big64(a), big64(b))
			want, fits := int64(0), z.IsInt64()
			if fits {
				want = z.Int64()
			}
			if n, is := c.call(a, b); n != want || is != fits {
				t.Fatalf("%s(%d, %d): %d, %v; wanted %d, %v", c.name, a, b, n, is, want, fits)
			}
		})
	}
}

// TestHeldExact holds P1.1 against numbers without an end, and with it P1.2: never further than the true one, and it, wherever that can be.
func TestHeldExact(t *testing.T) {
	calls := []struct {
		name string
		call held
		math exact
	}{{"Sat", fix.Sat, (*big.Int).Add}, {"Less", fix.Less, (*big.Int).Sub}}
	var z big.Int
	for _, c := range calls {
		pairs(func(a, b int64) {
			c.math(&z, big64(a), big64(b))
			n := c.call(a, b)
			if z.IsInt64() && n != z.Int64() {
				t.Fatalf("%s(%d, %d): %d; the true one is %v", c.name, a, b, n, &z)
			}
			if !z.IsInt64() && n != map[int]int64{-1: least, 1: greatest}[z.Sign()] {
				t.Fatalf("%s(%d, %d): %d; the true one, %v, is beyond another end", c.name, a, b, n, &z)
			}
			if big64(n).CmpAbs(&z) > 0 {
				t.Fatalf("%s(%d, %d): %d lies further than the true one, %v", c.name, a, b, n, &z)
			}
		})
	}
}

// TestTakenAwayAgain holds P1.2: what was added is taken away again, and the other way round.
func TestTakenAwayAgain(t *testing.T) {
	added, taken := 0, 0
	pairs(func(a, b int64) {
		if sum, is := fix.Add(a, b); is {
			added++
			if n, is := fix.Sub(sum, b); n != a || !is {
				t.Fatalf("Sub(Add(%d, %d), %d): %d, %v", a, b, b, n, is)
			}
			if n, is := fix.Sub(sum, a); n != b || !is {
				t.Fatalf("Sub(Add(%d, %d), %d): %d, %v", a, b, a, n, is)
			}
			if n := fix.Less(fix.Sat(a, b), b); n != a {
				t.Fatalf("Less(Sat(%d, %d), %d): %d", a, b, b, n)
			}
		}
		if rest, is := fix.Sub(a, b); is {
			taken++
			if n, is := fix.Add(rest, b); n != a || !is {
				t.Fatalf("Add(Sub(%d, %d), %d): %d, %v", a, b, b, n, is)
			}
		}
	})
	if added == 0 || taken == 0 {
		t.Errorf("of all pairs %d were added, %d taken away", added, taken)
	}
}

// TestRises holds P1.2: a sum that is held rises as its parts do, a difference as its first part does, and falls as its second one rises.
func TestRises(t *testing.T) {
	l := numbers()
	for _, b := range l {
		for i := range len(l) - 1 {
			low, high := l[i], l[i+1]
			if fix.Sat(low, b) > fix.Sat(high, b) || fix.Sat(b, low) > fix.Sat(b, high) {
				t.Fatalf("Sat falls from %d to %d, beside %d", low, high, b)
			}
			if fix.Less(low, b) > fix.Less(high, b) {
				t.Fatalf("Less falls from %d to %d, less %d", low, high, b)
			}
			if fix.Less(b, low) < fix.Less(b, high) {
				t.Fatalf("Less of %d rises from less %d to less %d", b, low, high)
			}
		}
	}
}

// TestHoldAll holds P1.1 for Hold at each three of some numbers, both ends among them: the first thing that applies is told.
func TestHoldAll(t *testing.T) {
	l := []int64{least, least + 1, -5, -1, 0, 1, 5, 7, greatest - 1, greatest}
	for _, n := range l {
		for _, low := range l {
			for _, high := range l {
				want := n
				switch {
				case n < low:
					want = low
				case n > high:
					want = high
				}
				if got := fix.Hold(n, low, high); got != want {
					t.Errorf("Hold(%d, %d, %d): %d; wanted %d", n, low, high, got, want)
				}
			}
		}
	}
}

// TestSameAgain holds R4: what was asked ahead changes no answer.
func TestSameAgain(t *testing.T) {
	l := scattered(200)
	ask := func() []int64 {
		var out []int64
		for i := range len(l) - 2 {
			a, b, c := l[i], l[i+1], l[i+2]
			sum, _ := fix.Add(a, b)
			rest, _ := fix.Sub(a, b)
			product, _ := fix.Mul(a, b)
			out = append(out, sum, rest, product, fix.Sat(a, b), fix.Less(a, b), fix.Hold(a, b, c))
		}
		return out
	}
	first := ask()
	slices.Reverse(l)
	ask()
	slices.Reverse(l)
	if !slices.Equal(first, ask()) {
		t.Error("the same numbers have other answers the second time")
	}
}
