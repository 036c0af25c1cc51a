package load_test

import (
	"math"
	"math/big"
	"slices"
	"testing"

	"dole/load"
)

// By the chapter's words.
const (
	greatest = math.MaxUint64
	every    = math.MaxUint64 // the mask of all Ps
	none     = -1
)

// from is the mask of all Ps from one on.
func from(p int) uint64 {
	m := uint64(every)
	return m << p
}

// numbers are small ones, powers of two with their neighbours, and the greatest ones: rising, each once.
func numbers() []uint64 {
	l := []uint64{0, 1, 2, 3, 5, 7, 10, 1000, 12297829382473034411, greatest - 2, greatest - 1, greatest}
	for _, i := range []int{8, 16, 18, 31, 32, 33, 53, 62, 63} {
		p := uint64(1) << i
		l = append(l, p-1, p, p+1)
	}
	slices.Sort(l)
	return slices.Compact(l)
}

// scattered are numbers of all sizes without a pattern, the same ones each time.
func scattered(n int) []uint64 {
	l := make([]uint64, 0, n)
	x := uint64(88172645463325252)
	for range n {
		x ^= x << 13
		x ^= x >> 7
		x ^= x << 17
		l = append(l, x>>(x%64))
	}
	return l
}

// filled are n loads of one size.
func filled(n int, size uint64) []uint64 { return slices.Repeat([]uint64{size}, n) }

// set is l with one load put in.
func set(l []uint64, p int, n uint64) []uint64 {
	out := slices.Clone(l)
	out[p] = n
	return out
}

// minds are those that may be mine: none, each place, beyond the places, and numbers that a narrower kind of integer would bring back to a place.
func minds(n int) []int {
	l := []int{math.MinInt, math.MaxInt, -64, none, n, 63, 64, 65, 127, 128, 256, 1 << 16, 1 << 32, 1<<32 + 1}
	for p := range n {
		l = append(l, p)
	}
	return l
}

// maybe are the Ps that may be, by the chapter's words.
func maybe(loads []uint64, mask uint64) []int {
	var l []int
	bit := new(big.Int).SetUint64(mask)
	for p := range len(loads) {
		if p < 64 && bit.Bit(p) == 1 {
			l = append(l, p)
		}
	}
	return l
}

// best is the first P of those whose load is held better than each one's ahead of it, and no worse than each one's behind it: it is looked for by holding each one against all.
func best(loads []uint64, ps []int, better func(a, b uint64) bool) int {
	for i, p := range ps {
		is := true
		for k, other := range ps {
			if better(loads[other], loads[p]) || k < i && loads[other] == loads[p] {
				is = false
			}
		}
		if is {
			return p
		}
	}
	return none
}

func more(a, b uint64) bool { return a > b }

func less(a, b uint64) bool { return a < b }

func wantBusiest(loads []uint64, mine int, mask uint64) int {
	ps := slices.DeleteFunc(maybe(loads, mask), func(p int) bool { return p == mine })
	return best(loads, ps, more)
}

func wantLeast(loads []uint64, mask uint64) int {
	return best(loads, maybe(loads, mask), less)
}

func wantIdle(loads []uint64, mask uint64) int {
	for _, p := range maybe(loads, mask) {
		if loads[p] == 0 {
			return p
		}
	}
	return none
}

// busiest holds Busiest to what it should say, and the loads to stay as they are.
func busiest(t *testing.T, loads []uint64, mine int, mask uint64, want int) {
	t.Helper()
	asked := slices.Clone(loads)
	if p := load.Busiest(loads, mine, mask); p != want {
		t.Fatalf("Busiest(%v, %d, %#x): %d; wanted %d", asked, mine, mask, p, want)
	}
	stays(t, loads, asked)
}

// least holds Least and Idle likewise.
func least(t *testing.T, loads []uint64, mask uint64, want, idle int) {
	t.Helper()
	asked := slices.Clone(loads)
	if p := load.Least(loads, mask); p != want {
		t.Fatalf("Least(%v, %#x): %d; wanted %d", asked, mask, p, want)
	}
	stays(t, loads, asked)
	if p := load.Idle(loads, mask); p != idle {
		t.Fatalf("Idle(%v, %#x): %d; wanted %d", asked, mask, p, idle)
	}
	stays(t, loads, asked)
}

func stays(t *testing.T, loads, asked []uint64) {
	t.Helper()
	if !slices.Equal(loads, asked) {
		t.Fatalf("of the loads %v it leaves %v", asked, loads)
	}
}

// TestExamples holds P15.2 to the chapter's example.
func TestExamples(t *testing.T) {
	l := []uint64{3, 7, 7, 0}
	busiest(t, l, 1, every, 2)
	least(t, l, every, 3, 3)
}

// TestSumNamed holds P15.1's Sum to numbers that are worked out by hand, both sides of the end among them.
func TestSumNamed(t *testing.T) {
	for _, r := range []struct {
		l    []uint64
		want uint64
	}{
		{nil, 0},
		{[]uint64{}, 0},
		{[]uint64{4, 5}[:0], 0},
		{[]uint64{0}, 0},
		{[]uint64{0, 0, 0}, 0},
		{[]uint64{9}, 9},
		{[]uint64{1, 2, 3, 4}, 10},
		{[]uint64{3, 7, 7, 0}, 17},
		{[]uint64{1 << 63}, 1 << 63},
		{[]uint64{1<<63 - 1, 1 << 63}, greatest},
		{[]uint64{1 << 63, 1<<63 - 2}, greatest - 1},
		{[]uint64{1 << 63, 1 << 63}, greatest},
		{[]uint64{1 << 63, 1 << 63, 5}, greatest},
		{[]uint64{1 << 63, 1 << 63, 1 << 63, 1 << 63}, greatest},
		{[]uint64{greatest}, greatest},
		{[]uint64{greatest, 0}, greatest},
		{[]uint64{0, greatest}, greatest},
		{[]uint64{greatest, 1}, greatest},
		{[]uint64{1, greatest}, greatest},
		{[]uint64{greatest, 1, greatest}, greatest},
		{[]uint64{greatest, 2, 3, 4}, greatest},
		{[]uint64{greatest - 1, 1}, greatest},
		{[]uint64{greatest - 1, 1, 1}, greatest},
		{[]uint64{greatest - 5, 2, 2}, greatest - 1},
		{[]uint64{greatest - 5, 2, 2, 1, 0}, greatest},
		{filled(64, 1<<58), greatest},
		{set(filled(64, 1<<58), 40, 1<<58-1), greatest},
		{set(filled(64, 1<<58), 40, 1<<58-2), greatest - 1},
		{filled(64, 262144), 1 << 24},
		{filled(70, 3), 210}, // a sum is of all, not of the first 64 alone
		{filled(100000, 1000003), 100000300000},
	} {
		asked := slices.Clone(r.l)
		if s := load.Sum(r.l); s != r.want {
			t.Fatalf("Sum(%v): %d; wanted %d", asked, s, r.want)
		}
		stays(t, r.l, asked)
	}
}

// wantSum adds without an end.
func wantSum(l []uint64) uint64 {
	sum := new(big.Int)
	for _, n := range l {
		sum.Add(sum, new(big.Int).SetUint64(n))
	}
	if sum.IsUint64() {
		return sum.Uint64()
	}
	return greatest
}

// TestSumExact holds P15.1's Sum against numbers without an end.
func TestSumExact(t *testing.T) {
	hold := func(l ...uint64) {
		if s, want := load.Sum(l), wantSum(l); s != want {
			t.Fatalf("Sum(%v): %d; wanted %d", l, s, want)
		}
	}
	l := numbers()
	for _, a := range l {
		hold(a)
		for _, b := range l {
			hold(a, b)
			for _, c := range l {
				hold(a, b, c)
			}
		}
	}
	s := scattered(20000)
	for i := 0; i+70 < len(s); i++ {
		hold(s[i : i+int(s[i]%70)]...)
	}
}

// TestGap holds P15.1's Gap to numbers that are worked out by hand, and to each two of numbers.
func TestGap(t *testing.T) {
	for _, r := range []struct{ a, b, want uint64 }{
		{0, 0, 0},
		{7, 3, 4},
		{3, 7, 0},
		{5, 5, 0},
		{5, 4, 1},
		{4, 5, 0},
		{1, 0, 1},
		{0, 1, 0},
		{greatest, 0, greatest},
		{0, greatest, 0},
		{greatest, 1, greatest - 1},
		{greatest, greatest - 1, 1},
		{greatest - 1, greatest, 0},
		{greatest, greatest, 0},
		{1 << 63, 1<<63 - 1, 1},
		{1<<63 - 1, 1 << 63, 0},
		{1 << 63, 0, 1 << 63},
		{0, 1 << 63, 0},
		{1<<63 + 5, 5, 1 << 63},
	} {
		if g := load.Gap(r.a, r.b); g != r.want {
			t.Fatalf("Gap(%d, %d): %d; wanted %d", r.a, r.b, g, r.want)
		}
	}
	for _, a := range numbers() {
		for _, b := range numbers() {
			want := new(big.Int).Sub(new(big.Int).SetUint64(a), new(big.Int).SetUint64(b))
			if want.Sign() < 0 {
				want.SetInt64(0)
			}
			if g := load.Gap(a, b); g != want.Uint64() {
				t.Fatalf("Gap(%d, %d): %d; wanted %d", a, b, g, want)
			}
		}
	}
}

// TestBusiestNamed holds P15.2's Busiest to what is worked out by hand.
func TestBusiestNamed(t *testing.T) {
	l := []uint64{3, 7, 7, 0, 0, 9}
	for _, r := range []struct {
		loads []uint64
		mine  int
		mask  uint64
		want  int
	}{
		{l, none, every, 5},
		{l, 5, every, 1}, // of two alike the lower one
		{l, 1, every, 5},
		{l, 5, every &^ 2, 2},
		{l, 0, 1 << 0, none}, // only mine may be
		{l, 1, 1 << 0, 0},
		{l, 5, 1<<5 | 1<<3 | 1<<4, 3}, // those of load 0 are loaded enough
		{l, 3, 1<<5 | 1<<3 | 1<<4, 5},
		{l, 3, 1<<3 | 1<<4, 4},
		{l, 4, 1<<3 | 1<<4, 3},
		{l, none, 1<<3 | 1<<4, 3},
		{l, none, 0, none},
		{l, none, from(6), none}, // Ps of the mask that are no places
		{l, 2, 1<<6 | 1<<63, none},
		{l[:0], none, every, none},
		{nil, none, every, none},
		{nil, 0, every, none},
		{[]uint64{0}, none, every, 0},
		{[]uint64{0}, 0, every, none},
		{[]uint64{0, 0}, 0, every, 1},
		// A mine that is no place is nobody's.
		{l, -1, every, 5},
		{l, 6, every, 5},
		{l, 64, every, 5},
		{l, 69, every, 5},
		{l, 5 - 64, every, 5},
		{l, 1<<32 + 5, every, 5},
		{l, math.MinInt, every, 5},
		{l, math.MaxInt, every, 5},
		// Great loads are no lesser ones.
		{[]uint64{1<<63 - 1, 1 << 63}, none, every, 1},
		{[]uint64{greatest, 1<<63 - 1}, none, every, 0},
		{[]uint64{greatest - 1, greatest, greatest}, none, every, 1},
		{[]uint64{5, 1 << 32}, none, every, 1},
	} {
		busiest(t, r.loads, r.mine, r.mask, r.want)
	}
}

// TestLeastNamed holds P15.2's Least and Idle likewise.
func TestLeastNamed(t *testing.T) {
	l := []uint64{3, 7, 7, 0, 0, 9}
	for _, r := range []struct {
		loads      []uint64
		mask       uint64
		want, idle int
	}{
		{l, every, 3, 3}, // of two alike the lower one
		{l, every &^ 8, 4, 4},
		{l, 1<<3 | 1<<4, 3, 3},
		{l, 1 << 4, 4, 4},
		{l, every &^ (8 | 16), 0, none},
		{l, 1<<1 | 1<<2 | 1<<5, 1, none},
		{l, 1<<2 | 1<<5, 2, none},
		{l, 1 << 5, 5, none},
		{l, 0, none, none},
		{l, from(6), none, none},
		{l[:0], every, none, none},
		{nil, every, none, none},
		{[]uint64{0}, every, 0, 0},
		{[]uint64{0}, every &^ 1, none, none},
		{[]uint64{1}, every, 0, none},
		{[]uint64{1, 1, 1}, every, 0, none},
		{[]uint64{1, 1, 0}, every, 2, 2},
		// Great loads are no lesser ones, and none of them is 0.
		{[]uint64{1 << 63, 1<<63 - 1}, every, 1, none},
		{[]uint64{1<<63 - 1, greatest}, every, 0, none},
		{[]uint64{greatest, greatest}, every, 0, none},
		{[]uint64{greatest, greatest, greatest - 1}, every, 2, none},
		{[]uint64{1 << 32, 5}, every, 1, none},
		{[]uint64{1 << 32, 1 << 16, 1 << 8}, every, 2, none},
		{[]uint64{1 << 63, 0}, every, 1, 1},
	} {
		least(t, r.loads, r.mask, r.want, r.idle)
	}
}

// TestWide holds P15.2 of as many places as there are Ps, fewer, and more: what stands at 64 and beyond is no P's load.
func TestWide(t *testing.T) {
	for n := range 131 {
		last := min(n, 64) - 1
		first := 0
		if n == 0 {
			first = none
		}
		idle := filled(n, 0)
		busiest(t, idle, none, every, first)
		least(t, idle, every, first, first)
		loads := filled(n, 5)
		busiest(t, loads, none, every, first)
		least(t, loads, every, first, none)
		for p := range n {
			heavy, light, lightest := set(loads, p, 6), set(loads, p, 4), set(loads, p, 0)
			if p >= 64 {
				busiest(t, heavy, none, every, 0)
				busiest(t, heavy, 0, every, 1)
				least(t, light, every, 0, none)
				least(t, lightest, every, 0, none)
				continue
			}
			busiest(t, heavy, none, every, p)
			least(t, light, every, p, none)
			least(t, lightest, every, p, p)
			busiest(t, light, none, 1<<p, p)
			busiest(t, light, p, 1<<p, none)
			least(t, heavy, 1<<p, p, none)
		}
		if n < 64 {
			least(t, loads, from(n), none, none)
			busiest(t, loads, none, from(n), none)
		}
		if last >= 0 {
			busiest(t, loads, none, 1<<last, last)
			least(t, loads, 1<<last, last, none)
			least(t, idle, 1<<last, last, last)
		}
	}
}

// TestMineWide holds that mine, at 64 and beyond, is nobody's, though there is such a place.
func TestMineWide(t *testing.T) {
	for p := range 64 {
		loads := set(filled(200, 5), p, 6)
		for _, mine := range []int{p + 64, p + 128, p - 64, p + 256, p + 1<<32, ^p} {
			busiest(t, loads, mine, every, p)
		}
		other := 0
		if p == 0 {
			other = 1
		}
		busiest(t, loads, p, every, other)
	}
}

// smalls calls f with all loads of at most so many of these, and with each mask of their places and of two beyond.
func smalls(most int, of []uint64, f func(loads []uint64, mask uint64)) {
	level := [][]uint64{nil}
	for n := range most + 1 {
		var longer [][]uint64
		for _, l := range level {
			for mask := range uint64(1) << (n + 2) {
				f(l, mask)
			}
			f(l, every)
			for _, x := range of {
				longer = append(longer, append(slices.Clone(l), x))
			}
		}
		level = longer
	}
}

// longs calls f with long loads without a pattern, of all sizes and of few, and with masks of many Ps and of few.
func longs(f func(loads []uint64, mask uint64)) {
	s := scattered(9000)
	for i := 0; i+203 < len(s); i += 3 {
		n := int(s[i]%100) + 1
		wild := s[i+3 : i+3+n]
		few := slices.Clone(wild)
		for k := range few {
			few[k] = few[k] >> 3 % 4
		}
		for _, mask := range []uint64{every, s[i+1], ^s[i+1], s[i+1] * 0x9e3779b97f4a7c15, 1 << (s[i+2] % 64)} {
			f(wild, mask)
			f(few, mask)
		}
	}
}

// TestModel holds P15.2 to the chapter's words, for all small loads and masks and many long ones.
func TestModel(t *testing.T) {
	hold := func(loads []uint64, mask uint64) {
		least(t, loads, mask, wantLeast(loads, mask), wantIdle(loads, mask))
		for _, mine := range minds(min(len(loads), 4)) {
			busiest(t, loads, mine, mask, wantBusiest(loads, mine, mask))
		}
	}
	smalls(4, []uint64{0, 1, 7, greatest}, hold)
	smalls(5, []uint64{0, 2, 3}, hold)
	longs(hold)
}

// TestNone holds P15.3: of the Ps that may be none has more load than Busiest, but mine, and none less than Least; Idle is Least, where there is one.
func TestNone(t *testing.T) {
	hold := func(loads []uint64, mask uint64) {
		low, idle := load.Least(loads, mask), load.Idle(loads, mask)
		if idle != none && idle != low {
			t.Fatalf("of %v, %#x: Idle is %d, Least %d", loads, mask, idle, low)
		}
		ps := maybe(loads, mask)
		for _, mine := range minds(min(len(loads), 64)) {
			high := load.Busiest(loads, mine, mask)
			for _, p := range ps {
				if p != mine && (high == none || loads[p] > loads[high]) {
					t.Fatalf("of %v, but %d, %#x: Busiest is %d, but %d has more", loads, mine, mask, high, p)
				}
			}
			if high == mine && high != none {
				t.Fatalf("of %v, but %d, %#x: Busiest is mine", loads, mine, mask)
			}
		}
		for _, p := range ps {
			if low == none || loads[p] < loads[low] {
				t.Fatalf("of %v, %#x: Least is %d, but %d has less", loads, mask, low, p)
			}
			if idle == none && loads[p] == 0 {
				t.Fatalf("of %v, %#x: none is idle, but %d is", loads, mask, p)
			}
		}
	}
	smalls(4, []uint64{0, 1, greatest}, hold)
	longs(hold)
}

// TestAgain holds R3 and R4: no answer hangs on what was asked ahead, nor on what stands behind a slice's end.
func TestAgain(t *testing.T) {
	whole := []uint64{4, 6, 2, 0, 9}
	for range 3 {
		busiest(t, whole[:3], none, every, 1)
		least(t, whole[:3], every, 2, none)
		busiest(t, whole, none, every, 4)
		least(t, whole, every, 3, 3)
		if s := load.Sum(whole[:3]); s != 12 {
			t.Fatalf("Sum(%v): %d", whole[:3], s)
		}
		load.Sum([]uint64{greatest, greatest})
		load.Gap(1, greatest)
	}
}
