package nice_test

import (
	"math"
	"math/big"
	"slices"
	"testing"

	"dole/api"
	"dole/nice"
)

const (
	least    = -20
	greatest = 19
)

// known are the 40 weights, from -20 to 19, worked out apart from the program.
func known() []uint64 {
	return []uint64{
		88817, 71054, 56843, 45474, 36379, 29103, 23283, 18626, 14901, 11920,
		9536, 7629, 6103, 4882, 3906, 3125, 2500, 2000, 1600, 1280,
		1024, 819, 655, 524, 419, 335, 268, 214, 171, 137,
		109, 87, 70, 56, 45, 36, 28, 23, 18, 14,
	}
}

// none are numbers that are no nice numbers: just beyond both ends, and far beyond, among them those that a narrower kind of integer would bring back to a nice one.
func none() []int {
	l := []int{least - 1, least - 2, greatest + 1, greatest + 2, math.MinInt, math.MinInt + 1, math.MaxInt, math.MaxInt - 1}
	for i := 5; i < 63; i++ {
		p := 1 << i
		l = append(l, p-1, p, p+1, -p-1, -p, -p+1, p+least, p+greatest, -p+least, -p-greatest)
	}
	return slices.DeleteFunc(l, func(n int) bool { return n >= least && n <= greatest })
}

// weight is that of a number that must be a nice one.
func weight(t *testing.T, n int) uint64 {
	t.Helper()
	w, e := nice.Weight(n)
	if e != api.OK {
		t.Fatalf("Weight(%d): the error %d", n, e)
	}
	return w
}

// cutOnce is 1024 times 5/4, or 4/5, as often as a nice number asks, as a whole fraction that is cut at its end.
func cutOnce(n int) uint64 {
	whole := big.NewRat(api.Unit, 1)
	step := big.NewRat(4, 5)
	if n < 0 {
		n, step = -n, big.NewRat(5, 4)
	}
	for range n {
		whole.Mul(whole, step)
	}
	return new(big.Int).Quo(whole.Num(), whole.Denom()).Uint64()
}

// TestWeightKnown holds P3.1 at each nice number, against numbers worked out apart.
func TestWeightKnown(t *testing.T) {
	for i, want := range known() {
		if w, e := nice.Weight(least + i); w != want || e != api.OK {
			t.Errorf("Weight(%d): %d, %d; wanted %d, %d", least+i, w, e, want, api.OK)
		}
	}
}

// TestWeightExact holds P3.1 at each nice number, against fractions without an end.
func TestWeightExact(t *testing.T) {
	for n := least; n <= greatest; n++ {
		if w, want := weight(t, n), cutOnce(n); w != want {
			t.Errorf("Weight(%d): %d; wanted %d", n, w, want)
		}
	}
}

// TestWeightNone holds P3.1, P1 and R1 at numbers that are no nice ones: ErrArg, and 0 beside it.
func TestWeightNone(t *testing.T) {
	for _, n := range none() {
		if w, e := nice.Weight(n); w != 0 || e != api.ErrArg {
			t.Errorf("Weight(%d): %d, %d; wanted 0, %d", n, w, e, api.ErrArg)
		}
	}
}

// TestExamples holds P3.1 and P3.2 to the chapter's examples.
func TestExamples(t *testing.T) {
	for _, r := range []struct {
		n    int
		want uint64
	}{{0, 1024}, {-1, 1280}, {1, 819}, {19, 14}, {-20, 88817}} {
		if w := weight(t, r.n); w != r.want {
			t.Errorf("Weight(%d): %d; wanted %d", r.n, w, r.want)
		}
	}
	for _, r := range []struct {
		w    uint64
		want int
	}{{1024, 0}, {1025, -1}, {1, 19}} {
		if n := nice.Nearest(r.w); n != r.want {
			t.Errorf("Nearest(%d): %d; wanted %d", r.w, n, r.want)
		}
	}
}

// TestNearestBeside holds P3.2 just at, just below and just above each of the 40 weights.
func TestNearestBeside(t *testing.T) {
	for i, w := range known() {
		n := least + i
		for _, r := range []struct {
			w    uint64
			want int
		}{{w - 1, n}, {w, n}, {w + 1, max(n-1, least)}} {
			if got := nice.Nearest(r.w); got != r.want {
				t.Errorf("Nearest(%d), beside the weight of %d: %d; wanted %d", r.w, n, got, r.want)
			}
		}
	}
}

// TestNearestEnds holds P3.2 and P1 below all weights, above all of them, and at both ends of uint64.
func TestNearestEnds(t *testing.T) {
	for _, w := range []uint64{0, 1, 2, 13, 14} {
		if n := nice.Nearest(w); n != greatest {
			t.Errorf("Nearest(%d): %d; wanted %d", w, n, greatest)
		}
	}
	above := []uint64{88818, 88819, 100000, api.MaxWeight, 1<<32 - 1, 1 << 32, 1<<32 + 1024, 1 << 40, 1<<63 - 1, 1 << 63, 1<<63 + 1024, math.MaxUint64 - 1, math.MaxUint64}
	for _, w := range above {
		if n := nice.Nearest(w); n != least {
			t.Errorf("Nearest(%d): %d; wanted %d", w, n, least)
		}
	}
}

// TestNearestEach holds P3.2 at each number from 0 to beyond the greatest weight, against a search through all of them.
func TestNearestEach(t *testing.T) {
	l := known()
	for w := range uint64(100000) {
		want := least
		for i, has := range l {
			if has >= w {
				want = least + i
			}
		}
		if n := nice.Nearest(w); n != want {
			t.Fatalf("Nearest(%d): %d; wanted %d", w, n, want)
		}
	}
}

// TestTable holds P3.2: the 40 weights, from -20 to 19, each as Weight tells it.
func TestTable(t *testing.T) {
	l := nice.Table()
	if !slices.Equal(l, known()) {
		t.Fatalf("Table: %v", l)
	}
	for i, w := range l {
		if got := weight(t, least+i); got != w {
			t.Errorf("Table has %d for %d, Weight %d", w, least+i, got)
		}
	}
}

// TestTableOwn holds R3 and R4: the caller may change a table, and no other answer changes with it.
func TestTableOwn(t *testing.T) {
	first, other := nice.Table(), nice.Table()
	clear(first)
	first = append(first, 1, 2, 3)
	clear(first[:cap(first)])
	if !slices.Equal(other, known()) {
		t.Errorf("a table that was told ahead has changed: %v", other)
	}
	if l := nice.Table(); !slices.Equal(l, known()) {
		t.Errorf("a table that is told later has changed: %v", l)
	}
	if w := weight(t, 0); w != api.Unit {
		t.Errorf("Weight(0) has changed: %d", w)
	}
	if n := nice.Nearest(1025); n != -1 {
		t.Errorf("Nearest(1025) has changed: %d", n)
	}
}

// TestFalls holds P3.3: weights fall strictly, one by one, by 5 to 4, less than one off, both when the heavier and when the lighter one is taken as given.
func TestFalls(t *testing.T) {
	for n := least; n < greatest; n++ {
		heavy, light := int64(weight(t, n)), int64(weight(t, n+1))
		if light >= heavy {
			t.Errorf("the weights of %d and %d do not fall: %d, %d", n, n+1, heavy, light)
		}
		// A weight w stands for all from w to just below w + 1: 4 fifths of one such must be another.
		if 5*light >= 4*(heavy+1) || 4*heavy >= 5*(light+1) {
			t.Errorf("the weights of %d and %d are not as 5 to 4: %d, %d", n, n+1, heavy, light)
		}
	}
}

// TestToldBack holds P3.3: a nice number's weight tells the nice number back.
func TestToldBack(t *testing.T) {
	for n := least; n <= greatest; n++ {
		if back := nice.Nearest(weight(t, n)); back != n {
			t.Errorf("Nearest(Weight(%d)): %d", n, back)
		}
	}
}

// TestAcross holds P3.3: two that lie across 0 from each other make up 1024 times 1024; no more, and one more of each would be too much.
func TestAcross(t *testing.T) {
	const whole = api.Unit * api.Unit
	for n := range greatest + 1 {
		light, heavy := weight(t, n), weight(t, -n)
		if light*heavy > whole || (light+1)*(heavy+1) <= whole {
			t.Errorf("the weights of %d and %d make up %d times %d", n, -n, light, heavy)
		}
	}
}

// TestLimits holds the weights to those that may be (DOC.md's Words: from MinWeight to MaxWeight).
func TestLimits(t *testing.T) {
	for i, w := range nice.Table() {
		if w < api.MinWeight || w > api.MaxWeight {
			t.Errorf("the weight of %d may not be: %d", least+i, w)
		}
	}
}

// TestSameAgain holds R4: what was asked ahead changes no answer.
func TestSameAgain(t *testing.T) {
	l := append(none(), 0, -1, 1, least, greatest, 7, -7)
	ask := func() []uint64 {
		var out []uint64
		for _, n := range l {
			w, e := nice.Weight(n)
			out = append(out, w, uint64(e), uint64(nice.Nearest(uint64(n))))
		}
		return append(out, nice.Table()...)
	}
	first := ask()
	slices.Reverse(l)
	ask()
	slices.Reverse(l)
	if !slices.Equal(first, ask()) {
		t.Error("the same numbers have other answers the second time")
	}
}
