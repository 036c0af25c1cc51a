package share_test

import (
	"math"
	"math/big"
	"slices"
	"testing"

	"dole/share"
)

// By the chapter's words.
const (
	lightest = 2
	heaviest = 262144
	greatest = math.MaxUint64
)

func bigOf(n uint64) *big.Int { return new(big.Int).SetUint64(n) }

// bigSum is the sum of numbers, without an end.
func bigSum(l []uint64) *big.Int {
	all := new(big.Int)
	for _, n := range l {
		all.Add(all, bigOf(n))
	}
	return all
}

// quotient is what a weight is before it is held, without an end, apart from what the program calls; all is not 0.
func quotient(shares, here, all uint64) *big.Int {
	product := new(big.Int).Mul(bigOf(shares), bigOf(here))
	return product.Quo(product, bigOf(all))
}

// within tells whether a weight is one that need not be held.
func within(z *big.Int) bool {
	return z.Cmp(bigOf(lightest)) >= 0 && z.Cmp(bigOf(heaviest)) <= 0
}

func wantWeight(shares, here, all uint64) uint64 {
	if all == 0 {
		return lightest
	}
	z := quotient(shares, here, all)
	switch {
	case within(z):
		return z.Uint64()
	case z.Cmp(bigOf(lightest)) < 0:
		return lightest
	}
	return heaviest
}

// wantAll is the sum of loads, held to the greatest number.
func wantAll(loads []uint64) uint64 {
	if z := bigSum(loads); z.IsUint64() {
		return z.Uint64()
	}
	return greatest
}

func wantSplit(shares uint64, loads []uint64) []uint64 {
	all := wantAll(loads)
	var out []uint64
	for _, load := range loads {
		out = append(out, wantWeight(shares, load, all))
	}
	return out
}

// numbers are small ones, powers of two with their neighbours (both bounds of a weight among them), the greatest ones, and some ordinary numbers: rising, each once.
func numbers() []uint64 {
	l := []uint64{0, 1, 2, 3, 4, 5, 7, 10, 1000, 1000003, 12297829382473034411, greatest - 2, greatest - 1, greatest}
	for _, i := range []int{4, 10, 17, 18, 19, 31, 32, 33, 45, 46, 62, 63} {
		p := uint64(1) << i
		l = append(l, p-1, p, p+1)
	}
	slices.Sort(l)
	return slices.Compact(l)
}

// scattered are numbers of all sizes without a pattern, the same ones each time.
func scattered(n int) []uint64 {
	l := make([]uint64, 0, n)
	x := uint64(88172645463325252)
	for range n {
		x ^= x << 13
		x ^= x >> 7
		x ^= x << 17
		l = append(l, x>>(x%64))
	}
	return l
}

// weights calls f with each three of numbers, and with neighbours of scattered.
func weights(f func(shares, here, all uint64)) {
	l := numbers()
	for _, shares := range l {
		for _, here := range l {
			for _, all := range l {
				f(shares, here, all)
			}
		}
	}
	s := scattered(20000)
	for i := range len(s) - 2 {
		f(s[i], s[i+1], s[i+2])
	}
}

// splits calls f with loads of up to three out of some, and with longer ones without a pattern (of one size and of all sizes), each for shares of all kinds.
func splits(f func(shares uint64, loads []uint64)) {
	some := []uint64{0, 1, 2, 3, 7, 1024, 1 << 18, 1<<32 + 1, 1<<63 - 1, 1 << 63, greatest - 1, greatest}
	each := func(loads ...uint64) {
		for _, shares := range []uint64{0, 1, 2, 3, 5, 7, 1000, 1023, 1024, heaviest - 1, heaviest, heaviest + 1, 1 << 19, 1 << 40, 1 << 63, greatest} {
			f(shares, loads)
		}
	}
	each()
	for _, a := range some {
		each(a)
		for _, b := range some {
			each(a, b)
			for _, c := range some {
				each(a, b, c)
			}
		}
	}
	s := scattered(6000)
	for i := 0; i+70 < len(s); i += 20 {
		n := int(s[i]%64) + 1
		even := make([]uint64, n)
		for k := range even {
			even[k] = 1<<20 + s[i+k]%(1<<20)
		}
		each(even...)
		each(s[i : i+n]...)
	}
}

func split(t *testing.T, shares uint64, loads []uint64, want ...uint64) {
	t.Helper()
	if l := share.Split(shares, loads); !slices.Equal(l, want) {
		t.Errorf("Split(%d, %v): %v; wanted %v", shares, loads, l, want)
	}
}

// TestExamples holds P11.2 to the chapter's example.
func TestExamples(t *testing.T) {
	split(t, 1024, []uint64{1, 3}, 256, 768)
}

// TestHold holds P11.1 of Hold: at both bounds, beside them, far beyond them, and at each number between.
func TestHold(t *testing.T) {
	for _, r := range [][2]uint64{
		{0, 2}, {1, 2}, {2, 2}, {3, 3}, {77, 77}, {1024, 1024},
		{262143, 262143}, {262144, 262144}, {262145, 262144}, {300000, 262144},
		{1 << 31, 262144}, {1 << 32, 262144}, {1<<32 + 1, 262144}, {1<<32 + 77, 262144}, {1<<63 - 1, 262144}, {1 << 63, 262144}, {greatest - 1, 262144}, {greatest, 262144},
	} {
		if w := share.Hold(r[0]); w != r[1] {
			t.Errorf("Hold(%d): %d; wanted %d", r[0], w, r[1])
		}
	}
	for w := uint64(lightest); w <= heaviest; w++ {
		if share.Hold(w) != w {
			t.Fatalf("Hold(%d): %d", w, share.Hold(w))
		}
	}
}

// TestWeightNamed holds P11.1 of Weight at numbers worked out by hand.
func TestWeightNamed(t *testing.T) {
	for _, table := range []struct {
		name string
		rows [][4]uint64 // shares, here, all; wanted
	}{
		{"ordinary", [][4]uint64{
			{1024, 1, 4, 256}, {1024, 3, 4, 768}, {1024, 4, 4, 1024}, {1024, 8, 4, 2048}, {2048, 512, 1024, 1024}, {7, 5, 1, 35},
		}},
		{"rounded down", [][4]uint64{
			{7, 2, 3, 4}, {1000, 1, 3, 333}, {1000, 2, 3, 666}, {1023, 1, 2, 511}, {5, 1, 2, 2}, {11, 1, 4, 2}, {11, 3, 4, 8},
			// The product, or the shares, are just below the next weight.
			{1024, greatest - 1, greatest, 1023}, {heaviest, greatest - 1, greatest, heaviest - 1}, {3, greatest - 1, greatest, 2},
		}},
		{"no load at all", [][4]uint64{
			{1024, 0, 0, 2}, {1024, 4, 0, 2}, {0, 0, 0, 2}, {0, 4, 0, 2}, {heaviest, heaviest, 0, 2}, {1 << 32, 1 << 32, 0, 2}, {greatest, greatest, 0, 2}, {greatest, 0, 0, 2},
		}},
		{"no load here, or no shares", [][4]uint64{
			{1024, 0, 4, 2}, {0, 4, 4, 2}, {0, 0, 4, 2}, {greatest, 0, 1, 2}, {0, greatest, 1, 2}, {greatest, 0, greatest, 2},
		}},
		{"at the lower bound", [][4]uint64{
			{3, 1, 2, 2}, {2, 1, 2, 2}, {1, 1, 1, 2}, {1, 1, 2, 2}, {2, 1, 1, 2}, {3, 1, 1, 3}, {2, 3, 2, 3}, {1024, 1, 512, 2}, {1024, 1, 513, 2}, {1024, 1, 341, 3}, {1024, 1, 342, 2}, {1024, 1, 1025, 2}, {1024, 1, greatest, 2},
		}},
		{"at the upper bound", [][4]uint64{
			{heaviest, 1, 1, heaviest}, {heaviest - 1, 1, 1, heaviest - 1}, {heaviest + 1, 1, 1, heaviest}, {1000000, 1, 1, heaviest}, {512, 512, 1, heaviest}, {511, 513, 1, heaviest - 1}, {heaviest, 2, 1, heaviest},
			{2*heaviest - 1, 1, 2, heaviest - 1}, {2 * heaviest, 1, 2, heaviest}, {2*heaviest + 1, 1, 2, heaviest}, {2*heaviest + 2, 1, 2, heaviest}, {greatest, 1, 1, heaviest}, {1, greatest, 1, heaviest},
		}},
		{"a product beyond 2^64-1", [][4]uint64{
			{1 << 32, 1 << 32, 1 << 54, 1 << 10}, {1 << 32, 1 << 32, 1 << 46, heaviest}, {1 << 32, 1 << 32, 1<<46 + 1, heaviest - 1}, {1 << 32, 1 << 32, 1 << 63, 2}, {1 << 33, 1 << 32, 1 << 63, 4}, {1 << 32, 1 << 32, greatest, 2},
			{1024, greatest, greatest, 1024}, {greatest, 1024, greatest, 1024}, {100, 1 << 63, greatest, 50}, {101, 1 << 63, greatest, 50}, {heaviest, greatest, greatest, heaviest}, {heaviest + 1, greatest, greatest, heaviest},
		}},
		{"a quotient at 2^64-1, or beyond it", [][4]uint64{
			{greatest, greatest, greatest, heaviest}, {1<<33 - 1, 1<<33 + 1, 4, heaviest}, {1 << 32, 1 << 32, 1, heaviest}, {1 << 33, 1 << 33, 4, heaviest}, {1 << 63, 4, 1, heaviest}, {1 << 63, 4, 2, heaviest},
			{greatest, greatest, 1, heaviest}, {greatest, greatest, greatest - 1, heaviest}, {274177, 67280421310721, 1, heaviest},
		}},
	} {
		for _, r := range table.rows {
			if w := share.Weight(r[0], r[1], r[2]); w != r[3] {
				t.Errorf("%s: Weight(%d, %d, %d): %d; wanted %d", table.name, r[0], r[1], r[2], w, r[3])
			}
		}
	}
}

// TestWeightExact holds P11.1 of Weight at many numbers, against numbers without an end.
func TestWeightExact(t *testing.T) {
	weights(func(shares, here, all uint64) {
		if w, want := share.Weight(shares, here, all), wantWeight(shares, here, all); w != want {
			t.Fatalf("Weight(%d, %d, %d): %d; wanted %d", shares, here, all, w, want)
		}
	})
}

// TestSplitNamed holds P11.2 at numbers worked out by hand.
func TestSplitNamed(t *testing.T) {
	split(t, 1024, []uint64{7}, 1024)
	split(t, 1024, []uint64{3, 1}, 768, 256)
	split(t, 1000, []uint64{1, 1, 1}, 333, 333, 333)
	split(t, 1000, []uint64{5, 1, 3, 1}, 500, 100, 300, 100)
	split(t, 1024, []uint64{1 << 20, 0, 3 << 20}, 256, 2, 768)
	split(t, 0, []uint64{1, 3}, 2, 2)
	split(t, 1, []uint64{1, 3}, 2, 2)
	split(t, 1<<20, []uint64{1, 3}, heaviest, heaviest)
	split(t, 1<<20, []uint64{1, 3, 1 << 20}, 2, 2, heaviest)
	split(t, greatest, []uint64{1, 3}, heaviest, heaviest)
	split(t, greatest, []uint64{1, 0, greatest - 1}, 2, 2, heaviest)
	// The first P's part is just above the upper bound, the second one's just at it, the third one's just below.
	split(t, 3*heaviest, []uint64{heaviest + 1, heaviest, heaviest - 1}, heaviest, heaviest, heaviest-1)
}

// TestSplitNothing holds P11.2, and R2, where there are no loads, or loads of 0 alone.
func TestSplitNothing(t *testing.T) {
	for _, shares := range []uint64{0, 1, 1024, greatest} {
		split(t, shares, nil)
		split(t, shares, []uint64{})
		split(t, shares, []uint64{1, 3}[:0])
		split(t, shares, []uint64{0}, 2)
		split(t, shares, []uint64{0, 0}, 2, 2)
		split(t, shares, make([]uint64, 5), 2, 2, 2, 2, 2)
	}
}

// TestSplitSumAtEnd holds P11.2 where the sum of all loads is just below 2^64-1, just at it, just beyond it, and far beyond it: there each weight is of 2^64-1.
func TestSplitSumAtEnd(t *testing.T) {
	split(t, 1024, []uint64{greatest - 2, 1}, 1023, 2)
	split(t, 1024, []uint64{greatest}, 1024)
	split(t, 1024, []uint64{greatest, 0}, 1024, 2)
	split(t, 1024, []uint64{greatest - 1, 1}, 1023, 2)
	split(t, 1024, []uint64{1<<63 - 1, 1 << 63}, 511, 512)
	// Of the true sum, 2^64, the first one would weigh 1023.
	split(t, 1024, []uint64{greatest, 1}, 1024, 2)
	split(t, 1024, []uint64{1, greatest}, 2, 1024)
	split(t, 100, []uint64{1 << 63, 1 << 63}, 50, 50)
	// A sum that wraps would be 2^63, or 0, or 2, and the weights twice as much, or MinWeight, or MaxWeight.
	split(t, 1000, []uint64{1 << 63, 1 << 63, 1 << 63}, 500, 500, 500)
	split(t, 1000, []uint64{1 << 63, 1 << 63, 1 << 63, 1 << 63}, 500, 500, 500, 500)
	split(t, 1000, []uint64{1 << 63, 1 << 63, 2}, 500, 500, 2)
	split(t, 1000, []uint64{2, 1 << 63, 1 << 63}, 2, 500, 500)
	split(t, 1000, []uint64{1 << 63, 1 << 63, 1 << 63, 0, 1 << 62}, 500, 500, 500, 2, 250)
	split(t, 1024, []uint64{greatest, greatest, greatest}, 1024, 1024, 1024)
	split(t, greatest, []uint64{greatest, greatest, 1, 0}, heaviest, heaviest, 2, 2)
}

// TestSplitLong holds P11.2 of more loads than there are Ps: no number of them is refused.
func TestSplitLong(t *testing.T) {
	for _, n := range []int{63, 64, 65, 1000, 100000} {
		loads := make([]uint64, n)
		for i := range loads {
			loads[i] = uint64(i) % 5
		}
		if l := share.Split(1<<20, loads); !slices.Equal(l, wantSplit(1<<20, loads)) {
			t.Errorf("Split over %d loads: %v", n, l)
		}
	}
}

// TestSplitExact holds P11.2 at many loads, against numbers without an end, and to Weight of the held sum.
func TestSplitExact(t *testing.T) {
	splits(func(shares uint64, loads []uint64) {
		l := share.Split(shares, loads)
		if want := wantSplit(shares, loads); !slices.Equal(l, want) {
			t.Fatalf("Split(%d, %v): %v; wanted %v", shares, loads, l, want)
		}
		all := wantAll(loads)
		for i, load := range loads {
			if w := share.Weight(shares, load, all); w != l[i] {
				t.Fatalf("Split(%d, %v): %v; Weight(%d, %d, %d): %d", shares, loads, l, shares, load, all, w)
			}
		}
	})
}

// TestMoreLoad holds P11.3's first words: a P with more load has no less weight, of equal loads weights are equal.
func TestMoreLoad(t *testing.T) {
	less, same := 0, 0
	splits(func(shares uint64, loads []uint64) {
		l := share.Split(shares, loads)
		for i := range loads {
			for k := range loads {
				switch {
				case loads[i] < loads[k] && l[i] > l[k], loads[i] == loads[k] && l[i] != l[k]:
					t.Fatalf("Split(%d, %v): %v", shares, loads, l)
				case loads[i] < loads[k] && l[i] < l[k]:
					less++
				case loads[i] == loads[k] && i != k:
					same++
				}
			}
		}
	})
	if less == 0 || same == 0 {
		t.Errorf("of all pairs %d had other weights, %d equal loads", less, same)
	}
	weights(func(shares, here, all uint64) {
		if here < greatest && share.Weight(shares, here, all) > share.Weight(shares, here+1, all) {
			t.Fatalf("Weight(%d, %d, %d) falls with one more load", shares, here, all)
		}
	})
}

// noneHeld tells whether all weights are as they were before they were held. No loads, and loads of 0 alone, are left out: there no quotient is, and what the shares are is not seen.
func noneHeld(shares uint64, loads []uint64) bool {
	all := wantAll(loads)
	if all == 0 {
		return false
	}
	return !slices.ContainsFunc(loads, func(load uint64) bool { return !within(quotient(shares, load, all)) })
}

// TestTogether holds P11.3's last words: where none is held, the weights are no more than the shares together, and less than a unit for each P fewer. Where the sum of the loads is itself beyond 2^64-1, each weight is of less than that sum, so that only the last words hold.
func TestTogether(t *testing.T) {
	exact, fewest, beyond, more := 0, 0, 0, 0
	splits(func(shares uint64, loads []uint64) {
		if !noneHeld(shares, loads) {
			return
		}
		l := share.Split(shares, loads)
		lost := new(big.Int).Sub(bigOf(shares), bigSum(l))
		over := !bigSum(loads).IsUint64()
		if lost.Cmp(big.NewInt(int64(len(loads)))) >= 0 || !over && lost.Sign() < 0 {
			t.Fatalf("Split(%d, %v): %v, which is %v less than the shares", shares, loads, l, lost)
		}
		switch {
		case over:
			beyond++
			if lost.Sign() < 0 {
				more++
			}
		case lost.Sign() == 0:
			exact++
		case lost.Int64() == int64(len(loads))-1:
			fewest++
		}
	})
	if exact == 0 || fewest == 0 || beyond == 0 || more == 0 {
		t.Errorf("%d were as much as the shares, %d as few as can be, %d of a sum that was held, of which %d more than the shares", exact, fewest, beyond, more)
	}
}

// TestTogetherNamed holds P11.3's last words at loads whose weights lose nothing, or as much as they can.
func TestTogetherNamed(t *testing.T) {
	for n := uint64(1); n <= 64; n++ {
		loads := slices.Repeat([]uint64{3}, int(n))
		for rest := range n {
			want := slices.Repeat([]uint64{1024}, int(n))
			split(t, 1024*n+rest, loads, want...)
		}
	}
}

// TestSplitShares holds R3: the loads stay as they are, with what lies behind them, and what is told is the caller's own.
func TestSplitShares(t *testing.T) {
	whole := []uint64{1, 3, 5, 7}
	loads := whole[:2]
	first := share.Split(1024, loads)
	second := share.Split(1024, loads)
	for i := range first {
		first[i] = 99
	}
	_ = append(first[:1], 98, 97, 96, 95)
	if !slices.Equal(whole, []uint64{1, 3, 5, 7}) {
		t.Errorf("the loads are %v behind the call", whole)
	}
	if !slices.Equal(second, []uint64{256, 768}) {
		t.Errorf("an answer is %v behind a change of another one", second)
	}
	loads[0], loads[1] = 1, 1
	if !slices.Equal(second, []uint64{256, 768}) {
		t.Errorf("an answer is %v behind a change of the loads", second)
	}
	split(t, 1024, loads, 512, 512)
}

// TestSameAgain holds R4: what was asked ahead changes no answer.
func TestSameAgain(t *testing.T) {
	ask := func(l []uint64) []uint64 {
		var out []uint64
		for i := range len(l) - 2 {
			out = append(out, share.Hold(l[i]), share.Weight(l[i], l[i+1], l[i+2]))
			out = append(out, share.Split(l[i], l[i+1:min(i+9, len(l))])...)
		}
		return out
	}
	l := append(numbers(), scattered(300)...)
	first := ask(l)
	back := slices.Clone(l)
	slices.Reverse(back)
	ask(back)
	if !slices.Equal(first, ask(l)) {
		t.Error("the same numbers have other answers the second time")
	}
}
