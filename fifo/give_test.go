package fifo_test

import (
	"math"
	"math/big"
	"slices"
	"testing"

	"dole/fifo"
)

const (
	greatest = math.MaxInt64
	lowest   = math.MinInt64
)

// give holds Give to what it should say, and the needs to stay as they are.
func give(t *testing.T, needs []int64, pool, slice int64, want []int64, left int64) {
	t.Helper()
	asked := slices.Clone(needs)
	got, rest := fifo.Give(needs, pool, slice)
	if !slices.Equal(got, want) || rest != left {
		t.Fatalf("Give(%v, %d, %d): %v, %d; wanted %v, %d", asked, pool, slice, got, rest, want, left)
	}
	if !slices.Equal(needs, asked) {
		t.Fatalf("Give(%v, %d, %d) leaves %v of the needs", asked, pool, slice, needs)
	}
}

// TestExamples holds P13.2 to the chapter's example.
func TestExamples(t *testing.T) {
	give(t, []int64{3, 5}, 10, 4, []int64{4, 6}, 0)
}

// TestGiveOne holds P13.2 of one need, at numbers worked out by hand.
func TestGiveOne(t *testing.T) {
	for _, table := range []struct {
		name string
		rows [][5]int64 // the need, the pool, the slice; what it gets, what is left
	}{
		{"whole slices", [][5]int64{
			{1, 100, 4, 4, 96}, {3, 100, 4, 4, 96}, {4, 100, 4, 4, 96}, {5, 100, 4, 8, 92}, {7, 100, 4, 8, 92}, {8, 100, 4, 8, 92}, {9, 100, 4, 12, 88},
			{1, 100, 1, 1, 99}, {7, 100, 1, 7, 93}, {7, 100, 99, 99, 1}, {99, 100, 99, 99, 1}, {98, 100, 99, 99, 1},
		}},
		{"the pool's end", [][5]int64{
			{3, 5, 4, 4, 1}, {3, 4, 4, 4, 0}, {3, 3, 4, 3, 0}, {3, 2, 4, 2, 0}, {3, 1, 4, 1, 0}, {5, 7, 4, 7, 0}, {5, 8, 4, 8, 0}, {5, 9, 4, 8, 1},
			{100, 100, 100, 100, 0}, {100, 100, 101, 100, 0}, {101, 100, 100, 100, 0}, {1, 1, 1, 1, 0}, {1, 1, greatest, 1, 0}, {greatest, 1, 1, 1, 0}, {greatest, 1, greatest, 1, 0},
		}},
		{"nothing is needed", [][5]int64{
			{0, 100, 4, 0, 100}, {-1, 100, 4, 0, 100}, {-4, 100, 4, 0, 100}, {-5, 100, 4, 0, 100}, {lowest, 100, 4, 0, 100}, {lowest, greatest, greatest, 0, greatest}, {lowest + 1, 1, 1, 0, 1}, {0, greatest, 1, 0, greatest},
		}},
		{"nothing is left", [][5]int64{
			{3, 0, 4, 0, 0}, {3, -1, 4, 0, -1}, {3, -5, 4, 0, -5}, {3, lowest, 4, 0, lowest}, {greatest, lowest, greatest, 0, lowest}, {greatest, 0, 1, 0, 0}, {0, 0, 4, 0, 0}, {-3, -5, 4, 0, -5}, {-5, -3, 4, 0, -3},
		}},
		{"no slice", [][5]int64{
			{3, 100, 0, 0, 100}, {3, 100, -1, 0, 100}, {3, 100, -4, 0, 100}, {3, 100, lowest, 0, 100}, {3, -5, 0, 0, -5}, {0, 100, 0, 0, 100}, {lowest, lowest, lowest, 0, lowest}, {greatest, greatest, -1, 0, greatest}, {-3, 100, -2, 0, 100},
		}},
		{"2^63-1", [][5]int64{
			// In whole slices just it, or the most below it; then beyond it, so that the need itself is what counts.
			{greatest, greatest, 1, greatest, 0}, {greatest, greatest, greatest, greatest, 0}, {1, greatest, greatest, greatest, 0}, {greatest - 1, greatest, greatest, greatest, 0}, {greatest - 6, greatest, 7, greatest, 0}, {greatest - 7, greatest, 7, greatest - 7, 7}, {greatest - 8, greatest, 7, greatest - 7, 7},
			{greatest - 2, greatest, 2, greatest - 1, 1}, {greatest - 1, greatest, 2, greatest - 1, 1}, {greatest, greatest, 2, greatest, 0}, {greatest, greatest, 4, greatest, 0},
			{greatest - 3, greatest, 4, greatest - 3, 3}, {greatest - 4, greatest, 4, greatest - 3, 3}, {greatest - 2, greatest, 4, greatest - 2, 2}, {greatest - 1, greatest, 4, greatest - 1, 1},
			{1 << 62, greatest, 1 << 62, 1 << 62, 1<<62 - 1}, {1<<62 + 1, greatest, 1 << 62, 1<<62 + 1, 1<<62 - 2}, {1<<62 - 1, greatest, 1 << 62, 1 << 62, 1<<62 - 1}, {greatest, greatest, greatest - 1, greatest, 0}, {greatest - 1, greatest, greatest - 1, greatest - 1, 1}, {1, greatest, greatest - 1, greatest - 1, 1},
			{greatest, 1 << 62, 4, 1 << 62, 0}, {greatest - 1, greatest - 2, 4, greatest - 2, 0}, {greatest - 1, greatest - 1, 4, greatest - 1, 0}, {1<<62 + 1, 1 << 62, 1 << 62, 1 << 62, 0},
		}},
	} {
		t.Run(table.name, func(t *testing.T) {
			for _, r := range table.rows {
				give(t, []int64{r[0]}, r[1], r[2], []int64{r[3]}, r[4])
			}
		})
	}
}

// TestGiveMany holds P13.2 of several needs, in turn, at numbers worked out by hand.
func TestGiveMany(t *testing.T) {
	for _, r := range []struct {
		needs       []int64
		pool, slice int64
		want        []int64
		left        int64
	}{
		{[]int64{5, 3}, 10, 4, []int64{8, 2}, 0},
		{[]int64{5, 3}, 12, 4, []int64{8, 4}, 0},
		{[]int64{5, 3}, 13, 4, []int64{8, 4}, 1},
		{[]int64{5, 3}, 8, 4, []int64{8, 0}, 0},
		{[]int64{5, 3}, 7, 4, []int64{7, 0}, 0},
		{[]int64{3, 3, 3, 3}, 10, 4, []int64{4, 4, 2, 0}, 0},
		{[]int64{0, 3, -2, 3, 0, 3}, 9, 4, []int64{0, 4, 0, 4, 0, 1}, 0},
		{[]int64{0, -3, lowest}, 9, 4, []int64{0, 0, 0}, 9},
		{[]int64{3, 0, 3}, 0, 4, []int64{0, 0, 0}, 0},
		{[]int64{3, 0, 3}, -9, 4, []int64{0, 0, 0}, -9},
		{[]int64{3, 0, 3}, 9, 0, []int64{0, 0, 0}, 9},
		{[]int64{3, 0, 3}, 9, -4, []int64{0, 0, 0}, 9},
		// One that gets less than others does not wait till these have all.
		{[]int64{1, 100, 1}, 50, 10, []int64{10, 40, 0}, 0},
		{[]int64{greatest, greatest}, greatest, 1, []int64{greatest, 0}, 0},
		{[]int64{greatest - 1, greatest}, greatest, 4, []int64{greatest - 1, 1}, 0},
		{[]int64{greatest - 4, greatest, greatest}, greatest, 4, []int64{greatest - 3, 3, 0}, 0},
		{[]int64{1, 1, 1}, greatest, 1 << 62, []int64{1 << 62, 1<<62 - 1, 0}, 0},
	} {
		give(t, r.needs, r.pool, r.slice, r.want, r.left)
	}
}

// TestGiveNobody holds P13.2, and R2, where nobody needs anything, since there are none.
func TestGiveNobody(t *testing.T) {
	for _, pool := range []int64{0, 1, 10, -1, -10, greatest, lowest} {
		for _, slice := range []int64{4, 1, 0, -1, greatest, lowest} {
			give(t, nil, pool, slice, nil, pool)
			give(t, []int64{}, pool, slice, nil, pool)
			give(t, []int64{3, 5}[:0], pool, slice, nil, pool)
		}
	}
}

// wantPart is what one gets, by the chapter's words, without an end: the number of slices is counted, and so many are made of them.
func wantPart(need, pool, slice *big.Int) *big.Int {
	if need.Sign() <= 0 || pool.Sign() <= 0 || slice.Sign() <= 0 {
		return new(big.Int)
	}
	slicesOf, rest := new(big.Int).QuoRem(need, slice, new(big.Int))
	if rest.Sign() != 0 {
		slicesOf.Add(slicesOf, big.NewInt(1))
	}
	asked := slicesOf.Mul(slicesOf, slice)
	if !asked.IsInt64() {
		asked = need
	}
	if asked.Cmp(pool) > 0 {
		asked = pool
	}
	return asked
}

func wantGive(needs []int64, pool, slice int64) ([]int64, int64) {
	left := big.NewInt(pool)
	var out []int64
	for _, need := range needs {
		got := wantPart(big.NewInt(need), left, big.NewInt(slice))
		out = append(out, got.Int64())
		left = new(big.Int).Sub(left, got)
	}
	return out, left.Int64()
}

// numbers are small ones, powers of two with their neighbours, both ends, and those below 0 that are as far: rising, each once.
func numbers() []int64 {
	l := []int64{0, 1, 2, 3, 4, 5, 6, 7, 10, 100, 1000003, 6148914691236517205, greatest, greatest - 1, greatest - 2, lowest, lowest + 1}
	for _, i := range []int{4, 10, 31, 32, 40, 61, 62} {
		p := int64(1) << i
		l = append(l, p-1, p, p+1)
	}
	for _, n := range slices.Clone(l) {
		l = append(l, -n)
	}
	slices.Sort(l)
	return slices.Compact(l)
}

// number tells one of any size, at an end now and then, and mostly above 0.
func (c *chance) number() int64 {
	n := int64(c.below(greatest)) >> c.below(63)
	switch c.below(12) {
	case 0:
		return -n
	case 1:
		return greatest - n
	case 2:
		return 0
	}
	return n
}

// gifts calls f with needs, a pool and a slice: one need of each of numbers, and up to 70 without a pattern, of all sizes and of one.
func gifts(f func(needs []int64, pool, slice int64)) {
	l := numbers()
	for _, need := range l {
		for _, pool := range l {
			for _, slice := range l {
				f([]int64{need}, pool, slice)
			}
		}
	}
	c := &chance{88172645463325252}
	for range 20000 {
		needs := make([]int64, c.below(70))
		for i := range needs {
			needs[i] = c.number()
		}
		f(needs, c.number(), c.number())
		for i := range needs {
			needs[i] = int64(c.below(100))
		}
		f(needs, int64(c.below(5000)), int64(c.below(20)))
	}
}

// TestGiveExact holds P13.2 at many needs, against numbers without an end.
func TestGiveExact(t *testing.T) {
	gifts(func(needs []int64, pool, slice int64) {
		want, left := wantGive(needs, pool, slice)
		give(t, needs, pool, slice, want, left)
	})
}

// TestGiveWhole holds P13.3's last words: what is given and what is left are what there was, and who needs some gets less only if nothing is left, nor for those behind it. Where no slice is, nobody gets any, which P13.2 says of it.
func TestGiveWhole(t *testing.T) {
	whole, short, none := 0, 0, 0
	gifts(func(needs []int64, pool, slice int64) {
		got, left := fifo.Give(needs, pool, slice)
		all := big.NewInt(left)
		for i, need := range needs {
			all.Add(all, big.NewInt(got[i]))
			switch {
			case got[i] < 0 || need <= 0 && got[i] != 0:
				t.Fatalf("Give(%v, %d, %d): %v", needs, pool, slice, got)
			case slice < 1 || need <= 0:
				none++
			case got[i] >= need:
				whole++
			default:
				short++
				if left > 0 || slices.ContainsFunc(got[i+1:], func(n int64) bool { return n != 0 }) {
					t.Fatalf("Give(%v, %d, %d): %v, %d, where %d gets %d", needs, pool, slice, got, left, need, got[i])
				}
			}
		}
		if all.Cmp(big.NewInt(pool)) != 0 || left < min(pool, 0) {
			t.Fatalf("Give(%v, %d, %d): %v, %d: together %v", needs, pool, slice, got, left, all)
		}
	})
	if whole < 1000 || short < 1000 || none < 1000 {
		t.Errorf("%d got what they need, %d less, %d none", whole, short, none)
	}
}

// TestGiveFirst holds P13.3 of Give: what one gets hangs on those ahead of it alone.
func TestGiveFirst(t *testing.T) {
	gifts(func(needs []int64, pool, slice int64) {
		got, _ := fifo.Give(needs, pool, slice)
		for _, n := range []int{len(needs) / 2, max(len(needs)-1, 0)} {
			if some, _ := fifo.Give(needs[:n], pool, slice); !slices.Equal(some, got[:n]) {
				t.Fatalf("Give(%v, %d, %d): %v; of the first %d alone %v", needs, pool, slice, got, n, some)
			}
		}
	})
}

// TestGiveLong holds P13.2 of more needs than there are Ps: no number of them is refused.
func TestGiveLong(t *testing.T) {
	for _, n := range []int{63, 64, 65, 1000, 100000} {
		needs := make([]int64, n)
		for i := range needs {
			needs[i] = int64(i) % 5
		}
		want, left := wantGive(needs, int64(n)*3/2, 3)
		give(t, needs, int64(n)*3/2, 3, want, left)
	}
}

// TestGiveShares holds R3: the needs stay as they are, with what lies behind them, and what is told is the caller's own.
func TestGiveShares(t *testing.T) {
	whole := []int64{3, 5, 7, 9}
	needs := whole[:2]
	first, _ := fifo.Give(needs, 10, 4)
	second, _ := fifo.Give(needs, 10, 4)
	for i := range first {
		first[i] = 99
	}
	_ = append(first[:1], 98, 97, 96, 95)
	if !slices.Equal(whole, []int64{3, 5, 7, 9}) {
		t.Errorf("the needs are %v behind the call", whole)
	}
	needs[0] = 1
	if !slices.Equal(second, []int64{4, 6}) {
		t.Errorf("an answer is %v behind a change of another one, and of the needs", second)
	}
}

// TestGiveAgain holds R4: what was asked ahead changes no answer.
func TestGiveAgain(t *testing.T) {
	give(t, []int64{3, 5}, 10, 4, []int64{4, 6}, 0)
	give(t, []int64{greatest}, greatest, greatest, []int64{greatest}, 0)
	give(t, []int64{3}, -5, 0, []int64{0}, -5)
	give(t, []int64{3, 5}, 10, 4, []int64{4, 6}, 0)
}
