package vrun_test

import (
	"math"
	"math/big"
	"slices"
	"testing"

	"dole/api"
	"dole/vrun"
)

const (
	least    = 2
	heaviest = 262144
	unit     = 1024
	tick     = 1000000000
	credit   = 1 << 40
	greatest = math.MaxUint64
)

// charged and needed are what a call answers, so that two answers can be held against each other whole.
type charged struct {
	v    int64
	left uint64
	e    api.Errno
}

type needed struct {
	ns uint64
	e  api.Errno
}

func charge(w, rem, ns uint64) charged {
	v, left, e := vrun.Charge(w, rem, ns)
	return charged{v, left, e}
}

func need(w, rem uint64, dv int64) needed {
	ns, e := vrun.Need(w, rem, dv)
	return needed{ns, e}
}

// step is the next one of numbers without a pattern, the same ones each time.
func step(x uint64) uint64 {
	x ^= x << 13
	x ^= x >> 7
	return x ^ x<<17
}

// weights are some that may be: both ends, powers of two and their neighbours, and some that divide no power of two.
func weights() []uint64 {
	l := []uint64{3, 5, 7, 10, 14, 819, 1000, 1280, 9973, 88817, 131071, 131073, 262139, heaviest - 1, heaviest}
	for i := 1; i < 18; i++ {
		p := uint64(1) << i
		l = append(l, p, p+1)
	}
	slices.Sort(l)
	return slices.Compact(l)
}

// noWeights are those that may not be: just beyond both ends and far beyond, among them those that a narrower kind of integer would bring back to one that may.
func noWeights() []uint64 {
	return []uint64{0, 1, heaviest + 1, heaviest + 2, 1 << 19, 1 << 20, 1<<31 + 3, 1 << 32, 1<<32 + 2, 1<<32 + unit, 1<<63 - 1, 1 << 63, 1<<63 + 3, greatest - 1, greatest}
}

// rests are what may be left over of a weight: none, a part, about a half, and all but a part.
func rests(w uint64) []uint64 {
	l := []uint64{0, 1, w / 3, w / 2, w - 2, w - 1}
	slices.Sort(l)
	return slices.Compact(l)
}

// noRests are no less than a weight: just at it, just beyond, and far beyond.
func noRests(w uint64) []uint64 {
	return []uint64{w, w + 1, 2 * w, heaviest + w, 1<<32 + w - 1, 1 << 32, 1 << 40, 1 << 63, greatest - 1, greatest}
}

func times() []uint64 {
	return []uint64{0, 1, 2, 3, 5, 255, 256, 257, 999, 1000, 1023, 1024, 1025, 4194303, 4194304, 4194305, 123456789, tick / 2, tick - 2, tick - 1, tick}
}

func noTimes() []uint64 {
	return []uint64{tick + 1, tick + 2, 1 << 30, 2 * tick, 1<<32 - 1, 1 << 32, 1<<32 + 5, 1 << 54, 1 << 63, 1<<63 + 5, greatest - 1, greatest}
}

func gains() []int64 {
	return []int64{0, 1, 2, 3, 341, 342, 511, 512, 513, 1023, 1024, 1025, 1<<20 - 1, 1 << 20, 1<<32 - 1, 1 << 32, 1<<32 + 1, 999999999999, credit - 2, credit - 1, credit}
}

func noGains() []int64 {
	return []int64{-1, -2, -341, -1 << 32, -1<<32 + 5, -credit, math.MinInt64 + 1, math.MinInt64, credit + 1, credit + 2, 1 << 41, 1<<41 + 7, 1 << 62, math.MaxInt64 - 1, math.MaxInt64}
}

func bigOf(n uint64) *big.Int { return new(big.Int).SetUint64(n) }

// sum is a times b, and c, without an end.
func sum(a, b, c uint64) *big.Int {
	s := new(big.Int).Mul(bigOf(a), bigOf(b))
	return s.Add(s, bigOf(c))
}

// wantCharge is P4.1 word by word, in numbers without an end.
func wantCharge(w, rem, ns uint64) charged {
	quotient, rest := new(big.Int).QuoRem(sum(unit, ns, rem), bigOf(w), new(big.Int))
	return charged{quotient.Int64(), rest.Uint64(), api.OK}
}

// enough tells whether so many nanoseconds are, as P4.2 says, in numbers without an end.
func enough(w, rem uint64, dv int64, ns uint64) bool {
	return sum(unit, ns, rem).Cmp(sum(uint64(dv), w, 0)) >= 0
}

// TestLimits holds the chapter's numbers to those of api, by which the tests here are written out.
func TestLimits(t *testing.T) {
	if api.MinWeight != least || api.MaxWeight != heaviest || api.Unit != unit || api.MaxTick != tick || api.MaxCredit != credit {
		t.Error("api has other limits than the chapter")
	}
}

// TestExamples holds P4.1 and P4.2 to the chapter's examples.
func TestExamples(t *testing.T) {
	if got := charge(1024, 0, 5); got != (charged{5, 0, api.OK}) {
		t.Errorf("Charge(1024, 0, 5): %v", got)
	}
	if got := charge(3, 0, 1); got != (charged{341, 1, api.OK}) {
		t.Errorf("Charge(3, 0, 1): %v", got)
	}
	if got := need(3, 0, 341); got != (needed{1, api.OK}) {
		t.Errorf("Need(3, 0, 341): %v", got)
	}
	if got := need(3, 0, 342); got != (needed{2, api.OK}) {
		t.Errorf("Need(3, 0, 342): %v", got)
	}
}

// TestChargeNamed holds P4.1 at numbers worked out apart from the program: both ends of weights, of what is left over, and of times.
func TestChargeNamed(t *testing.T) {
	for _, r := range []struct {
		w, rem, ns uint64
		v          int64
		left       uint64
	}{
		{2, 0, 0, 0, 0}, {2, 1, 0, 0, 1}, {2, 0, 1, 512, 0}, {2, 1, 1, 512, 1},
		{2, 0, tick, 512000000000, 0}, {2, 1, tick, 512000000000, 1},
		{3, 1, 1, 341, 2}, {3, 2, 1, 342, 0}, {3, 2, 0, 0, 2}, {3, 0, tick, 341333333333, 1}, {3, 2, tick, 341333333334, 0},
		{1024, 1023, 7, 7, 1023}, {1023, 1022, 1, 2, 0}, {1025, 0, 1, 0, 1024}, {1025, 1, 1, 1, 0}, {1025, 1024, 1, 1, 1023},
		{heaviest, 0, 255, 0, 261120}, {heaviest, 0, 256, 1, 0}, {heaviest, heaviest - 1, 1, 1, 1023},
		{heaviest, heaviest - 1, 0, 0, heaviest - 1}, {heaviest, 0, tick, 3906250, 0}, {heaviest, heaviest - 1, tick, 3906250, heaviest - 1},
		{heaviest - 1, 0, tick, 3906264, 236248}, {88817, 5, 1000, 11, 47018},
	} {
		if got, want := charge(r.w, r.rem, r.ns), (charged{r.v, r.left, api.OK}); got != want {
			t.Errorf("Charge(%d, %d, %d): %v; wanted %v", r.w, r.rem, r.ns, got, want)
		}
	}
}

// TestNeedNamed holds P4.2 at numbers worked out apart from the program: both ends of weights, of what is left over, and of gains, and what is just enough.
func TestNeedNamed(t *testing.T) {
	for _, r := range []struct {
		w, rem uint64
		dv     int64
		want   uint64
	}{
		{2, 0, 0, 0}, {2, 1, 0, 0}, {heaviest, heaviest - 1, 0, 0}, {heaviest, 0, 0, 0},
		{2, 0, 1, 1}, {2, 1, 1, 1}, {2, 0, 512, 1}, {2, 0, 513, 2}, {2, 1, 513, 2}, {2, 0, 1024, 2},
		{3, 1, 341, 1}, {3, 2, 342, 1}, {3, 1, 342, 2}, {3, 0, 683, 3}, {3, 1, 683, 2},
		{1024, 0, 1, 1}, {1024, 1023, 1, 1}, {1024, 0, 7, 7}, {1024, 1, 7, 7}, {1025, 0, 1, 2}, {1025, 1, 1, 1}, {1025, 1024, 1, 1},
		{heaviest, 0, 1, 256}, {heaviest, 1, 1, 256}, {heaviest, 1023, 1, 256}, {heaviest, 1024, 1, 255}, {heaviest, heaviest - 1024, 1, 1}, {heaviest, heaviest - 1025, 1, 2}, {heaviest, heaviest - 1, 1, 1},
		{2, 0, credit, 1 << 31}, {2, 1, credit, 1 << 31}, {3, 0, credit, 3 << 30}, {3, 2, credit - 1, 3 << 30},
		{heaviest, 0, credit, 1 << 48}, {heaviest, 1023, credit, 1 << 48}, {heaviest, 1024, credit, 1<<48 - 1}, {heaviest, heaviest - 1, credit, 1<<48 - 255}, {heaviest, heaviest - 1, credit - 1, 1<<48 - 511},
		{heaviest - 1, 0, credit, 1<<48 - 1<<30},
	} {
		if got, want := need(r.w, r.rem, r.dv), (needed{r.want, api.OK}); got != want {
			t.Errorf("Need(%d, %d, %d): %v; wanted %v", r.w, r.rem, r.dv, got, want)
		}
	}
}

// TestChargeExact holds P4.1 at many numbers that may be, against numbers without an end.
func TestChargeExact(t *testing.T) {
	hold := func(w, rem, ns uint64) {
		if got, want := charge(w, rem, ns), wantCharge(w, rem, ns); got != want {
			t.Errorf("Charge(%d, %d, %d): %v; wanted %v", w, rem, ns, got, want)
		}
	}
	for _, w := range weights() {
		for _, rem := range rests(w) {
			for _, ns := range times() {
				hold(w, rem, ns)
			}
		}
	}
	x := uint64(88172645463325252)
	for range 20000 {
		x = step(x)
		w := least + x>>20%(heaviest-least+1)
		x = step(x)
		rem := x >> 20 % w
		x = step(x)
		hold(w, rem, x>>20%(tick+1))
	}
}

// TestNeedExact holds P4.2 at many numbers that may be, against numbers without an end: it is enough, and one less is not.
func TestNeedExact(t *testing.T) {
	hold := func(w, rem uint64, dv int64) {
		got := need(w, rem, dv)
		if got.e != api.OK || !enough(w, rem, dv, got.ns) || got.ns > 0 && enough(w, rem, dv, got.ns-1) {
			t.Errorf("Need(%d, %d, %d): %v", w, rem, dv, got)
		}
	}
	for _, w := range weights() {
		for _, rem := range rests(w) {
			for _, dv := range gains() {
				hold(w, rem, dv)
			}
		}
	}
	x := uint64(88172645463325252)
	for range 20000 {
		x = step(x)
		w := least + x>>20%(heaviest-least+1)
		x = step(x)
		rem := x >> 20 % w
		x = step(x)
		hold(w, rem, int64(x>>20%(credit+1)))
	}
}

// TestWeightFaults holds P4.1, P4.2, P1 and R1 at weights that may not be: ErrWeight goes ahead of all else that may be wrong.
func TestWeightFaults(t *testing.T) {
	for _, w := range noWeights() {
		for _, rem := range append(noRests(w), 0, 1, w/2, w-1) {
			for _, ns := range append(noTimes(), times()...) {
				if got := charge(w, rem, ns); got != (charged{0, 0, api.ErrWeight}) {
					t.Errorf("Charge(%d, %d, %d): %v", w, rem, ns, got)
				}
			}
			for _, dv := range append(noGains(), gains()...) {
				if got := need(w, rem, dv); got != (needed{0, api.ErrWeight}) {
					t.Errorf("Need(%d, %d, %d): %v", w, rem, dv, got)
				}
			}
		}
	}
}

// TestRestFaults holds P4.1, P4.2, P1 and R1 where what is left over is not below the weight: ErrArg goes ahead of ErrTick.
func TestRestFaults(t *testing.T) {
	for _, w := range weights() {
		for _, rem := range noRests(w) {
			for _, ns := range append(noTimes(), times()...) {
				if got := charge(w, rem, ns); got != (charged{0, 0, api.ErrArg}) {
					t.Errorf("Charge(%d, %d, %d): %v", w, rem, ns, got)
				}
			}
			for _, dv := range append(noGains(), gains()...) {
				if got := need(w, rem, dv); got != (needed{0, api.ErrArg}) {
					t.Errorf("Need(%d, %d, %d): %v", w, rem, dv, got)
				}
			}
		}
	}
}

// TestLastFaults holds P4.1, P4.2, P1 and R1 where only the time, or only the gain, may not be.
func TestLastFaults(t *testing.T) {
	for _, w := range weights() {
		for _, rem := range rests(w) {
			for _, ns := range noTimes() {
				if got := charge(w, rem, ns); got != (charged{0, 0, api.ErrTick}) {
					t.Errorf("Charge(%d, %d, %d): %v", w, rem, ns, got)
				}
			}
			for _, dv := range noGains() {
				if got := need(w, rem, dv); got != (needed{0, api.ErrArg}) {
					t.Errorf("Need(%d, %d, %d): %v", w, rem, dv, got)
				}
			}
		}
	}
}

// TestEachWeight holds P4.1 and P4.2 at each weight that may be, and the first faults just beside each.
func TestEachWeight(t *testing.T) {
	for w := uint64(least); w <= heaviest; w++ {
		if got, want := charge(w, w-1, tick), (charged{int64((unit*tick + w - 1) / w), (unit*tick + w - 1) % w, api.OK}); got != want {
			t.Fatalf("Charge(%d, %d, %d): %v; wanted %v", w, w-1, tick, got, want)
		}
		if got := need(w, w-1, 1); got != (needed{1, api.OK}) {
			t.Fatalf("Need(%d, %d, 1): %v", w, w-1, got)
		}
		if got := charge(w, w, 0); got != (charged{0, 0, api.ErrArg}) {
			t.Fatalf("Charge(%d, %d, 0): %v", w, w, got)
		}
		if got := need(w, w, 0); got != (needed{0, api.ErrArg}) {
			t.Fatalf("Need(%d, %d, 0): %v", w, w, got)
		}
	}
}

// served is where a vruntime stands, and what is left over, when each piece was charged for after the other.
func served(t *testing.T, w, rem uint64, pieces []uint64) (int64, uint64) {
	t.Helper()
	v := int64(0)
	for _, ns := range pieces {
		got := charge(w, rem, ns)
		if got.e != api.OK || got.left >= w {
			t.Fatalf("Charge(%d, %d, %d): %v", w, rem, ns, got)
		}
		v, rem = v+got.v, got.left
	}
	return v, rem
}

// cuts are ways to cut a time up into pieces: halves, equal small ones, nothing and a nanosecond on either side, and some without a pattern.
func cuts(ns uint64) [][]uint64 {
	out := [][]uint64{{ns}, {0, ns, 0}, {ns / 2, ns - ns/2}}
	if ns > 0 {
		out = append(out, []uint64{1, ns - 1}, []uint64{ns - 1, 1})
	}
	var equal, odd []uint64
	for rest, piece := ns, ns/97+1; rest > 0; rest -= min(rest, piece) {
		equal = append(equal, min(rest, piece))
	}
	x := ns + 88172645463325252
	for rest := ns; rest > 0; {
		x = step(x)
		piece := min(rest, x>>20%(ns/13+2))
		odd = append(odd, piece)
		rest -= piece
	}
	return append(out, equal, odd)
}

// TestPieces holds P4.3 and P2: a time in pieces makes a vruntime go on just as all of it at once, and leaves as much over.
func TestPieces(t *testing.T) {
	for _, w := range weights() {
		for _, rem := range rests(w) {
			for _, ns := range times() {
				whole := charge(w, rem, ns)
				for _, pieces := range cuts(ns) {
					if v, left := served(t, w, rem, pieces); v != whole.v || left != whole.left {
						t.Fatalf("weight %d, %d left over, %d at once: %v; in %d pieces: %d, %d", w, rem, ns, whole, len(pieces), v, left)
					}
				}
			}
		}
	}
}

// TestNanoseconds holds P4.3 and P2 at the smallest pieces: one nanosecond after the other is never off from all of them at once.
func TestNanoseconds(t *testing.T) {
	for _, w := range weights() {
		for _, start := range rests(w) {
			v, rem := int64(0), start
			for ns := uint64(1); ns <= 2000; ns++ {
				gain, left := served(t, w, rem, []uint64{1})
				v, rem = v+gain, left
				if whole := charge(w, start, ns); v != whole.v || rem != whole.left {
					t.Fatalf("weight %d, %d left over, %d at once: %v; one by one: %d, %d", w, start, ns, whole, v, rem)
				}
			}
		}
	}
}

// TestLongService holds P4.3 and P2 beyond the longest tick: what many of them make together is what P4.1's words make of their sum.
func TestLongService(t *testing.T) {
	for _, w := range weights() {
		for _, rem := range rests(w) {
			var pieces []uint64
			total, x := uint64(0), w+rem+88172645463325252
			for i := range 500 {
				x = step(x)
				ns := x >> 20 % (tick + 1)
				if i%7 == 0 {
					ns = tick
				}
				pieces, total = append(pieces, ns), total+ns
			}
			v, left := served(t, w, rem, pieces)
			if want := wantCharge(w, rem, total); v != want.v || left != want.left {
				t.Fatalf("weight %d, %d left over, %d in pieces: %d, %d; wanted %v", w, rem, total, v, left, want)
			}
		}
	}
}

// TestNothingLost holds P2: what goes on, times the weight, and what is left over, is what was there and came, part by part.
func TestNothingLost(t *testing.T) {
	for _, w := range weights() {
		for _, rem := range rests(w) {
			for _, ns := range times() {
				got := charge(w, rem, ns)
				if got.e != api.OK || got.left >= w || sum(uint64(got.v), w, got.left).Cmp(sum(unit, ns, rem)) != 0 {
					t.Errorf("Charge(%d, %d, %d): %v", w, rem, ns, got)
				}
			}
		}
	}
}

// TestNeedCharged holds P4.1 and P4.2 to each other: served for as long as it needs, in ticks, a vruntime has gone on by no less than was asked, and a nanosecond ahead of that by less.
func TestNeedCharged(t *testing.T) {
	for _, w := range weights() {
		for _, rem := range rests(w) {
			for _, dv := range gains() {
				ns := need(w, rem, dv).ns
				if ns > 1000*tick {
					continue
				}
				if v, _ := served(t, w, rem, ticks(ns)); v < dv {
					t.Fatalf("Need(%d, %d, %d): %d makes but %d", w, rem, dv, ns, v)
				}
				if ns == 0 {
					continue
				}
				if v, _ := served(t, w, rem, ticks(ns-1)); v >= dv {
					t.Fatalf("Need(%d, %d, %d): %d, but one less makes %d", w, rem, dv, ns, v)
				}
			}
		}
	}
}

// ticks cuts a time up into the longest ticks that there may be.
func ticks(ns uint64) []uint64 {
	var out []uint64
	for ; ns > tick; ns -= tick {
		out = append(out, tick)
	}
	return append(out, ns)
}

// TestSameAgain holds R4: what was asked ahead changes no answer.
func TestSameAgain(t *testing.T) {
	type asked struct {
		charged
		needed
	}
	ask := func(l []uint64) []asked {
		var out []asked
		for _, w := range l {
			for _, rem := range []uint64{0, 1, 1023, heaviest, greatest} {
				out = append(out, asked{charge(w, rem, 12345), need(w, rem, 54321)}, asked{charge(w, rem, tick+1), need(w, rem, -1)})
			}
		}
		return out
	}
	l := append(weights(), noWeights()...)
	first := ask(l)
	back := slices.Clone(l)
	slices.Reverse(back)
	ask(back)
	if !slices.Equal(first, ask(l)) {
		t.Error("the same numbers have other answers the second time")
	}
}
