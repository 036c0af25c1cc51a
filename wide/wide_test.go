package wide_test

import (
	"math"
	"math/big"
	"slices"
	"testing"

	"dole/wide"
)

const greatest = math.MaxUint64

func bigOf(n uint64) *big.Int { return new(big.Int).SetUint64(n) }

func bigProduct(a, b uint64) *big.Int { return new(big.Int).Mul(bigOf(a), bigOf(b)) }

// numbers are small ones, powers of two with their neighbours, the greatest ones, and some ordinary numbers: rising, each once.
func numbers() []uint64 {
	l := []uint64{0, 1, 2, 3, 7, 10, 1000003, 274177, 67280421310721, 12297829382473034411, greatest - 2, greatest - 1, greatest}
	for _, i := range []int{4, 10, 18, 31, 32, 33, 40, 62, 63} {
		p := uint64(1) << i
		l = append(l, p-1, p, p+1)
	}
	slices.Sort(l)
	return slices.Compact(l)
}

// scattered are numbers of all sizes without a pattern, the same ones each time.
func scattered(n int) []uint64 {
	l := make([]uint64, 0, n)
	x := uint64(88172645463325252)
	for range n {
		x ^= x << 13
		x ^= x >> 7
		x ^= x << 17
		l = append(l, x>>(x%64))
	}
	return l
}

// divisions calls f with each three of numbers, with neighbours of scattered, and with each two of both beside the product's upper word, where a quotient begins to fit.
func divisions(f func(a, b, c uint64)) {
	near := func(a, b uint64) {
		upper := new(big.Int).Rsh(bigProduct(a, b), 64).Uint64()
		f(a, b, upper-1)
		f(a, b, upper)
		f(a, b, upper+1)
	}
	l := numbers()
	for _, a := range l {
		for _, b := range l {
			near(a, b)
			for _, c := range l {
				f(a, b, c)
			}
		}
	}
	s := scattered(20000)
	for i := range len(s) - 2 {
		near(s[i], s[i+1])
		f(s[i], s[i+1], s[i+2])
	}
}

// TestMulDivNamed holds P2.1 for MulDiv at numbers worked out by hand: ordinary ones, c of 0, and quotients up to, just at and just above 2^64 - 1, with and without a rest.
func TestMulDivNamed(t *testing.T) {
	rows := []struct {
		a, b, c, quotient, rest uint64
		is                      bool
	}{
		{1 << 63, 4, 8, 1 << 62, 0, true},
		{6, 7, 5, 8, 2, true}, {6, 7, 6, 7, 0, true}, {2, 3, 7, 0, 6, true}, {1, 1, greatest, 0, 1, true},
		{0, 0, 1, 0, 0, true}, {0, greatest, 3, 0, 0, true}, {greatest, 0, greatest, 0, 0, true},
		{0, 0, 0, 0, 0, false}, {0, 5, 0, 0, 0, false}, {1, 1, 0, 0, 0, false}, {greatest, greatest, 0, 0, 0, false},
		{greatest, 1, 1, greatest, 0, true}, {1, greatest, 1, greatest, 0, true}, {greatest, 7, 7, greatest, 0, true}, {greatest, greatest, greatest, greatest, 0, true},
		{31, 1190112520884487201, 2, greatest, 1, true}, {1<<33 - 1, 1<<33 + 1, 4, greatest, 3, true},
		{4, 3<<62 - 1, 3, greatest - 1, 2, true},
		{1 << 32, 1 << 32, 1, 0, 0, false}, {1 << 33, 1 << 33, 4, 0, 0, false}, {1 << 63, 4, 2, 0, 0, false},
		{3, 12297829382473034411, 2, 0, 0, false}, {274177, 67280421310721, 1, 0, 0, false},
		{greatest, greatest, greatest - 1, 0, 0, false}, {greatest, greatest, 1, 0, 0, false},
		{1 << 32, 1 << 32, greatest, 1, 1, true}, {1 << 32, 1 << 32, 2, 1 << 63, 0, true}, {1 << 32, 1 << 32, 3, 6148914691236517205, 1, true},
	}
	for _, r := range rows {
		if q, rest, is := wide.MulDiv(r.a, r.b, r.c); q != r.quotient || rest != r.rest || is != r.is {
			t.Errorf("MulDiv(%d, %d, %d): %d, %d, %v; wanted %d, %d, %v", r.a, r.b, r.c, q, rest, is, r.quotient, r.rest, r.is)
		}
	}
}

// TestUpNamed holds P2.1 for Up at numbers worked out by hand: ordinary ones, c of 0, and what is rounded up to just 2^64 - 1 and just above it, with and without a rest.
func TestUpNamed(t *testing.T) {
	rows := []struct {
		a, b, c, want uint64
		is            bool
	}{
		{1, 1, 2, 1, true},
		{6, 7, 5, 9, true}, {6, 7, 6, 7, true}, {2, 3, 7, 1, true}, {1, 1, greatest, 1, true},
		{0, 0, 1, 0, true}, {0, greatest, 3, 0, true}, {greatest, 0, greatest, 0, true},
		{0, 0, 0, 0, false}, {0, 5, 0, 0, false}, {1, 1, 0, 0, false}, {greatest, greatest, 0, 0, false},
		{greatest, 1, 1, greatest, true}, {greatest, 7, 7, greatest, true}, {greatest, greatest, greatest, greatest, true},
		{4, 3<<62 - 1, 3, greatest, true},
		{31, 1190112520884487201, 2, 0, false}, {1<<33 - 1, 1<<33 + 1, 4, 0, false},
		{1 << 32, 1 << 32, 1, 0, false}, {1 << 33, 1 << 33, 4, 0, false}, {3, 12297829382473034411, 2, 0, false},
		{greatest, greatest, greatest - 1, 0, false}, {greatest, greatest, 1, 0, false},
		{1 << 32, 1 << 32, greatest, 2, true}, {1 << 32, 1 << 32, 3, 6148914691236517206, true},
	}
	for _, r := range rows {
		if n, is := wide.Up(r.a, r.b, r.c); n != r.want || is != r.is {
			t.Errorf("Up(%d, %d, %d): %d, %v; wanted %d, %v", r.a, r.b, r.c, n, is, r.want, r.is)
		}
	}
}

// TestCompareNamed holds P2.1 for Compare at numbers worked out by hand, each also the other way round: products that differ in the upper word alone, in the lower word alone, in both (the words against each other), and in none.
func TestCompareNamed(t *testing.T) {
	rows := []struct {
		a, b, c, d uint64
		want       int
	}{
		{1 << 40, 1 << 40, 1, 1, 1}, {2, 6, 3, 4, 0}, {1, 1, 1, 2, -1}, {5, 7, 6, 6, -1},
		{0, 0, 0, greatest, 0}, {0, greatest, 1, 1, -1}, {greatest, 0, 0, greatest, 0},
		// The upper word alone: 2^64 and 2 times 2^64, and 0.
		{1 << 32, 1 << 32, 1 << 32, 1 << 33, -1}, {1 << 32, 1 << 32, 0, 0, 1}, {1 << 63, 1 << 63, 1 << 63, 1 << 62, 1},
		// The lower word alone: 2^64 and 2^64 + 1, then products of one word.
		{1 << 32, 1 << 32, 274177, 67280421310721, -1}, {greatest, 1, greatest - 1, 1, 1},
		// The upper word above, the lower one below: 2^64 and 2^64 - 1, 2^65 + 1 and 2^65 - 1.
		{1 << 32, 1 << 32, greatest, 1, 1}, {3, 12297829382473034411, 31, 1190112520884487201, 1},
		// One number by other factors.
		{1 << 32, 1 << 32, 1 << 63, 2, 0}, {1 << 63, 1 << 60, 1 << 61, 1 << 62, 0}, {3, greatest, greatest, 3, 0}, {greatest, greatest, greatest, greatest, 0},
		{greatest, greatest, greatest, greatest - 1, 1}, {1<<33 - 1, 1<<33 + 1, 1 << 33, 1 << 33, -1},
	}
	for _, r := range rows {
		if n := wide.Compare(r.a, r.b, r.c, r.d); n != r.want {
			t.Errorf("Compare(%d, %d, %d, %d): %d; wanted %d", r.a, r.b, r.c, r.d, n, r.want)
		}
		if n := wide.Compare(r.c, r.d, r.a, r.b); n != -r.want {
			t.Errorf("Compare(%d, %d, %d, %d): %d; wanted %d", r.c, r.d, r.a, r.b, n, -r.want)
		}
	}
}

// TestDivisionsExact holds P2.1 for MulDiv and Up against numbers without an end.
func TestDivisionsExact(t *testing.T) {
	var quotient, rest big.Int
	one := big.NewInt(1)
	divisions(func(a, b, c uint64) {
		var wantQ, wantR, wantUp uint64
		fits, fitsUp := false, false
		if c != 0 {
			quotient.QuoRem(bigProduct(a, b), bigOf(c), &rest)
			if fits = quotient.IsUint64(); fits {
				wantQ, wantR = quotient.Uint64(), rest.Uint64()
			}
			if rest.Sign() > 0 {
				quotient.Add(&quotient, one)
			}
			if fitsUp = quotient.IsUint64(); fitsUp {
				wantUp = quotient.Uint64()
			}
		}
		if q, r, is := wide.MulDiv(a, b, c); q != wantQ || r != wantR || is != fits {
			t.Fatalf("MulDiv(%d, %d, %d): %d, %d, %v; wanted %d, %d, %v", a, b, c, q, r, is, wantQ, wantR, fits)
		}
		if n, is := wide.Up(a, b, c); n != wantUp || is != fitsUp {
			t.Fatalf("Up(%d, %d, %d): %d, %v; wanted %d, %v", a, b, c, n, is, wantUp, fitsUp)
		}
	})
}

// TestMadeUpAgain holds P2.2, and P2 of the whole (nothing lost): quotient and rest make up the product again, the rest is below c, and rounded up a quotient is one more just where there is a rest.
func TestMadeUpAgain(t *testing.T) {
	with, without, upBeyond := 0, 0, 0
	divisions(func(a, b, c uint64) {
		q, r, is := wide.MulDiv(a, b, c)
		up, isUp := wide.Up(a, b, c)
		if !is {
			if isUp {
				t.Fatalf("Up(%d, %d, %d) is, where the quotient is not", a, b, c)
			}
			return
		}
		if again := bigProduct(q, c); again.Add(again, bigOf(r)).Cmp(bigProduct(a, b)) != 0 {
			t.Fatalf("MulDiv(%d, %d, %d): %d, %d make up %v", a, b, c, q, r, again)
		}
		if r >= c {
			t.Fatalf("MulDiv(%d, %d, %d): the rest %d is not below c", a, b, c, r)
		}
		switch {
		case r == 0:
			without++
			if up != q || !isUp {
				t.Fatalf("Up(%d, %d, %d): %d, %v; without a rest the quotient is %d", a, b, c, up, isUp, q)
			}
		case q == greatest:
			upBeyond++
			if isUp {
				t.Fatalf("Up(%d, %d, %d): %d, where one more than the quotient is too great", a, b, c, up)
			}
		default:
			with++
			if up != q+1 || !isUp {
				t.Fatalf("Up(%d, %d, %d): %d, %v; with a rest the quotient is %d", a, b, c, up, isUp, q)
			}
		}
	})
	if with == 0 || without == 0 || upBeyond == 0 {
		t.Errorf("of all divisions %d had a rest, %d had none, %d could not be rounded up", with, without, upBeyond)
	}
}

// TestCompareExact holds P2.1 for Compare against numbers without an end, at each two products of numbers, and of neighbours of scattered.
func TestCompareExact(t *testing.T) {
	type pair struct {
		a, b    uint64
		product *big.Int
	}
	var l []pair
	add := func(a, b uint64) { l = append(l, pair{a, b, bigProduct(a, b)}) }
	for _, a := range numbers() {
		for _, b := range numbers() {
			add(a, b)
		}
	}
	s := scattered(200)
	for i := range len(s) - 1 {
		add(s[i], s[i+1])
	}
	for _, x := range l {
		for _, y := range l {
			if n, want := wide.Compare(x.a, x.b, y.a, y.b), x.product.Cmp(y.product); n != want {
				t.Fatalf("Compare(%d, %d, %d, %d): %d; wanted %d", x.a, x.b, y.a, y.b, n, want)
			}
		}
	}
}

// TestSameAgain holds R4: what was asked ahead changes no answer.
func TestSameAgain(t *testing.T) {
	l := scattered(200)
	ask := func() []uint64 {
		var out []uint64
		for i := range len(l) - 3 {
			a, b, c, d := l[i], l[i+1], l[i+2], l[i+3]
			q, r, _ := wide.MulDiv(a, b, c)
			up, _ := wide.Up(a, b, c)
			out = append(out, q, r, up, uint64(wide.Compare(a, b, c, d)))
		}
		return out
	}
	first := ask()
	slices.Reverse(l)
	ask()
	slices.Reverse(l)
	if !slices.Equal(first, ask()) {
		t.Error("the same numbers have other answers the second time")
	}
}
