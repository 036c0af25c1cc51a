package place_test

import (
	"cmp"
	"math"
	"math/big"
	"slices"
	"testing"

	"dole/api"
	"dole/place"
)

// By the chapter's words.
const (
	greatest = math.MaxUint64
	every    = math.MaxUint64 // the mask of all Ps
	none     = -1
)

// numbers are small ones, powers of two with their neighbours, and the greatest ones: rising, each once.
func numbers() []uint64 {
	l := []uint64{0, 1, 2, 3, 1000, 12297829382473034411, greatest - 1, greatest}
	for _, i := range []int{8, 16, 31, 32, 33, 62, 63} {
		p := uint64(1) << i
		l = append(l, p-1, p, p+1)
	}
	slices.Sort(l)
	return slices.Compact(l)
}

// scattered are numbers of all sizes without a pattern, the same ones each time.
func scattered(n int) []uint64 {
	l := make([]uint64, 0, n)
	x := uint64(88172645463325252)
	for range n {
		x ^= x << 13
		x ^= x >> 7
		x ^= x << 17
		l = append(l, x>>(x%64))
	}
	return l
}

// filled are n of one kind.
func filled[T any](n int, v T) []T { return slices.Repeat([]T{v}, n) }

// set is l with one put in.
func set[T any](l []T, p int, v T) []T {
	out := slices.Clone(l)
	out[p] = v
	return out
}

// from is the mask of all Ps from one on.
func from(p int) uint64 {
	m := uint64(every)
	return m << p
}

// prevs are those that may be prev: each place, just beyond and far beyond, below 0, and numbers that a narrower kind of integer would bring back to a place.
func prevs(n int) []int {
	l := []int{math.MinInt, math.MaxInt, -128, -64, -63, -2, none, 62, 63, 64, 65, 127, 128, 256, 1 << 16, 1 << 32, 1<<32 + 1}
	for p := range n + 2 {
		l = append(l, p)
	}
	return l
}

// maybe are the Ps that may be, by the chapter's words.
func maybe(loads []uint64, mask uint64) []int {
	var l []int
	bit := new(big.Int).SetUint64(mask)
	for p := range loads {
		if p < 64 && bit.Bit(p) == 1 {
			l = append(l, p)
		}
	}
	return l
}

// idles are the idle Ps, likewise.
func idles(loads []uint64, running []bool, mask uint64) []int {
	longer := append(slices.Clone(running), make([]bool, len(loads))...)
	return slices.DeleteFunc(maybe(loads, mask), func(p int) bool { return loads[p] != 0 || longer[p] })
}

// wantIdle is by the chapter's words.
func wantIdle(loads []uint64, running []bool, mask uint64) int {
	for _, p := range idles(loads, running, mask) {
		return p
	}
	return none
}

// wantChoose likewise.
func wantChoose(loads []uint64, running []bool, prev int, mask uint64) (int, api.Errno) {
	may, free := maybe(loads, mask), idles(loads, running, mask)
	if len(may) == 0 {
		return 0, api.ErrMask
	}
	// A stable sort leaves the lowest one of a load ahead.
	byLoad := slices.Clone(may)
	slices.SortStableFunc(byLoad, func(a, b int) int { return cmp.Compare(loads[a], loads[b]) })
	switch {
	case slices.Contains(free, prev):
		return prev, api.OK
	case len(free) > 0:
		return free[0], api.OK
	case slices.Contains(may, prev) && loads[prev] == loads[byLoad[0]]:
		return prev, api.OK
	}
	return byLoad[0], api.OK
}

// idle holds Idle to what it should say, and what is handed in to stay as it is.
func idle(t *testing.T, loads []uint64, running []bool, mask uint64, want int) {
	t.Helper()
	asked, ran := slices.Clone(loads), slices.Clone(running)
	if p := place.Idle(loads, running, mask); p != want {
		t.Fatalf("Idle(%v, %v, %#x): %d; wanted %d", asked, ran, mask, p, want)
	}
	stays(t, loads, asked, running, ran)
}

// choose holds Choose likewise.
func choose(t *testing.T, loads []uint64, running []bool, prev int, mask uint64, want int, fault api.Errno) {
	t.Helper()
	asked, ran := slices.Clone(loads), slices.Clone(running)
	if p, e := place.Choose(loads, running, prev, mask); p != want || e != fault {
		t.Fatalf("Choose(%v, %v, %d, %#x): %d, %d; wanted %d, %d", asked, ran, prev, mask, p, e, want, fault)
	}
	stays(t, loads, asked, running, ran)
}

func stays(t *testing.T, loads, asked []uint64, running, ran []bool) {
	t.Helper()
	if !slices.Equal(loads, asked) || !slices.Equal(running, ran) {
		t.Fatalf("of %v, %v it leaves %v, %v", asked, ran, loads, running)
	}
}

// TestExamples holds P17.2 to the chapter's example, and to that of the whole.
func TestExamples(t *testing.T) {
	choose(t, []uint64{5, 0, 3}, filled(3, true), 2, every, 1, api.OK)
	choose(t, []uint64{5, 0, 3}, nil, 2, every, 1, api.OK)
	choose(t, []uint64{5, 0, 3}, []bool{true, false, true}, 0, every, 1, api.OK)
}

// TestIdleNamed holds P17.1 to what is worked out by hand.
func TestIdleNamed(t *testing.T) {
	l := []uint64{3, 0, 0, 9, 0, 0}
	for _, r := range []struct {
		loads   []uint64
		running []bool
		mask    uint64
		want    int
	}{
		{l, nil, every, 1},
		{l, []bool{}, every, 1},
		{l, filled(6, false), every, 1},
		{l, []bool{false, true}, every, 2},
		{l, []bool{false, true, true}, every, 4}, // no such place of running: nothing runs there
		{l, []bool{false, true, true, false, true}, every, 5},
		{l, []bool{true, false, true, true, true, true}, every, 1},
		{l, []bool{true, true, true, true, true, false}, every, 5},
		{l, filled(6, true), every, none},
		{l, filled(5, true), every, 5},
		{l, filled(64, true), every, none},
		{l, filled(200, true), every, none},
		{l, set(filled(200, true), 2, false), every, 2},
		{l, nil, every &^ 2, 2},
		{l, nil, every &^ 6, 4},
		{l, []bool{false, true}, every &^ 4, 4},
		{l, []bool{false, true}, 1<<1 | 1<<5, 5},
		{l, nil, 1 << 5, 5},
		{l, filled(6, true), 1 << 5, none},
		// None of load 0 may be.
		{l, nil, 1<<0 | 1<<3, none},
		{l, nil, 1 << 3, none},
		{l, nil, 0, none},
		{l, nil, from(6), none}, // Ps of the mask that are no places
		{l, filled(6, false), 1<<6 | 1<<63, none},
		{l[:1], nil, every, none},
		{l[:0], nil, every, none},
		{l[:0], []bool{false, false}, every, none},
		{nil, nil, every, none},
		{nil, filled(64, false), every, none},
		{[]uint64{0}, nil, every, 0},
		{[]uint64{0}, nil, 1, 0},
		{[]uint64{0}, nil, 2, none},
		{[]uint64{0}, []bool{true}, 1, none},
		{[]uint64{0}, []bool{true, false}, every, none},
		{[]uint64{0}, []bool{false, true}, every, 0},
		// That nothing runs there is not enough.
		{[]uint64{1}, nil, every, none},
		{[]uint64{1, 2, 3}, filled(3, false), every, none},
		// No great load is 0.
		{[]uint64{1 << 63, 1 << 32, 1 << 16, 1 << 8, greatest}, nil, every, none},
		{[]uint64{1 << 63, 1 << 32, 1 << 16, 1 << 8, greatest, 0}, nil, every, 5},
	} {
		idle(t, r.loads, r.running, r.mask, r.want)
	}
}

// TestChooseNamed holds P17.2 to what is worked out by hand.
func TestChooseNamed(t *testing.T) {
	l := []uint64{4, 0, 3, 0, 3, 7}
	for _, r := range []struct {
		loads   []uint64
		running []bool
		prev    int
		mask    uint64
		want    int
	}{
		// prev, if it is idle.
		{l, nil, 1, every, 1},
		{l, nil, 3, every, 3},
		{l, []bool{true, false}, 3, every, 3},
		{l, []bool{true, true}, 3, every, 3},
		{l, set(filled(6, true), 3, false), 3, every, 3},
		{l, nil, 3, 1 << 3, 3},
		// Else the lowest idle one, whatever prev is.
		{l, nil, 0, every, 1},
		{l, nil, 2, every, 1},
		{l, nil, 5, every, 1},
		{l, nil, 3, every &^ 8, 1},
		{l, nil, 1, every &^ 2, 3},
		{l, []bool{false, true}, 1, every, 3},
		{l, []bool{false, true}, 0, every, 3},
		{l, []bool{false, false, false, true}, 3, every, 1},
		{l, nil, 6, every, 1},
		{l, nil, 63, every, 1},
		{l, nil, 64, every, 1},
		{l, nil, 65, every, 1},
		{l, nil, 67, every, 1}, // 3, if it were held to 64 places
		{l, nil, 1<<32 + 3, every, 1},
		{l, nil, -1, every, 1},
		{l, nil, 3 - 64, every, 1},
		{l, nil, math.MinInt, every, 1},
		{l, nil, math.MaxInt, every, 1},
		{l, nil, 2, 1<<2 | 1<<3, 3},
		// Else prev, if its load is the least one.
		{l, nil, 2, 1<<0 | 1<<2 | 1<<4, 2},
		{l, nil, 4, 1<<0 | 1<<2 | 1<<4, 4},
		{l, nil, 0, 1<<0 | 1<<5, 0},
		{l, nil, 5, 1 << 5, 5},
		{l, filled(6, true), 1, every, 1}, // load 0, though something runs there
		{l, filled(6, true), 3, every, 3},
		{l, []bool{false, true, false, true}, 3, every, 3},
		// Else the lowest of the least load.
		{l, nil, 0, 1<<0 | 1<<2 | 1<<4, 2},
		{l, nil, 5, 1<<0 | 1<<2 | 1<<4 | 1<<5, 2},
		{l, nil, 5, 1<<0 | 1<<5, 0},
		{l, nil, 4, 1<<0 | 1<<2 | 1<<5, 2}, // prev has the least load, but may not be
		{l, nil, 1, 1<<0 | 1<<2, 2},        // prev is idle, but may not be
		{l, nil, 1, 1 << 5, 5},
		{l, nil, -1, 1<<0 | 1<<2 | 1<<4, 2},
		{l, nil, 4 - 64, 1<<0 | 1<<2 | 1<<4, 2},
		{l, nil, 6, 1<<0 | 1<<2 | 1<<4 | 1<<6, 2},
		{l, nil, 68, 1<<0 | 1<<2 | 1<<4, 2},
		{l, nil, 1<<32 + 4, 1<<0 | 1<<2 | 1<<4, 2},
		{l, nil, math.MinInt, 1<<0 | 1<<2 | 1<<4, 2},
		{l, nil, math.MaxInt, 1<<0 | 1<<2 | 1<<4, 2},
		{l, filled(6, true), 0, every, 1},
		{l, filled(6, true), 5, every, 1},
		{l, filled(6, true), -1, every, 1},
		{l, filled(6, true), 64, every, 1},
		{l, filled(200, true), 2, every, 1},
		{l, []bool{false, true, false, true}, 2, every, 1},
		{l, []bool{false, true, false, true}, 5, every &^ 2, 3},
		// One P alone.
		{[]uint64{0}, nil, 0, 1, 0},
		{[]uint64{0}, nil, -1, 1, 0},
		{[]uint64{0}, []bool{true}, 0, 1, 0},
		{[]uint64{0}, []bool{true}, 7, 1, 0},
		{[]uint64{9}, nil, 0, every, 0},
		{[]uint64{9}, []bool{true}, 1, every, 0},
		// Great loads are no lesser ones.
		{[]uint64{1 << 63, 1<<63 - 1}, nil, 0, every, 1},
		{[]uint64{1<<63 - 1, 1 << 63}, nil, 1, every, 0},
		{[]uint64{1<<63 - 1, 1 << 63}, nil, 0, every, 0},
		{[]uint64{greatest, 1}, nil, 0, every, 1},
		{[]uint64{1, greatest}, nil, 1, every, 0},
		{[]uint64{greatest, greatest}, nil, 1, every, 1},
		{[]uint64{greatest, greatest}, nil, 2, every, 0},
		{[]uint64{greatest, greatest - 1}, nil, 0, every, 1},
		{[]uint64{1 << 32, 5}, nil, 0, every, 1},
		{[]uint64{1 << 32, 5}, nil, 1, every, 1},
	} {
		choose(t, r.loads, r.running, r.prev, r.mask, r.want, api.OK)
	}
}

// TestErrMask holds P17.2's error: no P may be, whatever prev is and whatever runs.
func TestErrMask(t *testing.T) {
	l := []uint64{4, 0, 3}
	for _, r := range []struct {
		loads []uint64
		mask  uint64
	}{
		{nil, every},
		{nil, 0},
		{[]uint64{}, every},
		{l[:0], every},
		{l, 0},
		{l, from(3)},
		{l, 1 << 3},
		{l, 1 << 63},
		{l[:1], 1 << 1},
		{l[:2], 1<<2 | 1<<63},
		{filled[uint64](63, 0), 1 << 63},
		{filled[uint64](64, 0), 0},
		{filled[uint64](65, 0), 0},
		{filled[uint64](200, 7), 0},
	} {
		for _, running := range [][]bool{nil, {}, {false}, filled(3, true), filled(200, false)} {
			idle(t, r.loads, running, r.mask, none)
			for _, prev := range prevs(4) {
				choose(t, r.loads, running, prev, r.mask, 0, api.ErrMask)
			}
		}
	}
}

// TestWide holds both calls of as many places as there are Ps, fewer, and more: what stands at 64 and beyond is no P's.
func TestWide(t *testing.T) {
	for n := 1; n < 131; n++ {
		zeros, fives := filled[uint64](n, 0), filled[uint64](n, 5)
		for p := range n {
			lighter, free := set(fives, p, 4), set(fives, p, 0)
			alone := set(filled(n, true), p, false)
			if p >= 64 {
				idle(t, free, nil, every, none)
				idle(t, zeros, alone, every, none)
				choose(t, zeros, nil, p, every, 0, api.OK)
				choose(t, zeros, alone, p, every, 0, api.OK)
				choose(t, lighter, nil, p, every, 0, api.OK)
				choose(t, free, nil, p, every, 0, api.OK)
				choose(t, fives, nil, p, every, 0, api.OK)
				continue
			}
			idle(t, free, nil, every, p)
			idle(t, zeros, alone, every, p)
			idle(t, zeros, nil, 1<<p, p)
			idle(t, fives, nil, 1<<p, none)
			choose(t, zeros, nil, p, every, p, api.OK)
			choose(t, zeros, alone, p, every, p, api.OK)
			choose(t, zeros, filled(n, true), p, every, p, api.OK)
			choose(t, fives, nil, p, every, p, api.OK)
			for _, prev := range []int{0, n - 1, p - 1, p + 1, p + 64, p - 64, p + 256, p + 1<<32, ^p} {
				choose(t, free, nil, prev, every, p, api.OK)
				choose(t, zeros, alone, prev, every, p, api.OK)
				choose(t, lighter, nil, prev, every, p, api.OK)
				choose(t, fives, nil, prev, 1<<p, p, api.OK)
			}
		}
	}
}

// TestShort holds that nothing runs where there is no such place of running, and that what stands behind the loads there says nothing.
func TestShort(t *testing.T) {
	for n := range 131 {
		last := min(n, 64) // one behind the last P
		for k := range 131 {
			want, fault := k, api.OK
			if k >= last {
				want = none
			}
			idle(t, filled[uint64](n, 0), filled(k, true), every, want)
			idle(t, filled[uint64](n, 0), append(filled(k, true), filled(9, false)...), every, want)
			idle(t, filled[uint64](n, 1), filled(k, false), every, none)
			if n == 0 {
				fault = api.ErrMask
			}
			choose(t, filled[uint64](n, 0), filled(k, true), none, every, max(want, 0), fault)
			if last > 0 {
				choose(t, filled[uint64](n, 0), filled(k, true), last-1, every, last-1, api.OK)
			}
		}
	}
}

// TestLoads holds Choose, with prev as the one and as the other of two Ps, to each two of numbers.
func TestLoads(t *testing.T) {
	for _, a := range numbers() {
		for _, b := range numbers() {
			for _, running := range [][]bool{nil, {true}, {false, true}, {true, true}} {
				for _, prev := range prevs(2) {
					want, fault := wantChoose([]uint64{a, b}, running, prev, every)
					choose(t, []uint64{a, b}, running, prev, every, want, fault)
				}
				idle(t, []uint64{a, b}, running, every, wantIdle([]uint64{a, b}, running, every))
			}
		}
	}
}

// rows calls f with all rows of at most so many of these.
func rows[T any](most int, of []T, f func(l []T)) {
	level := [][]T{nil}
	for range most + 1 {
		var longer [][]T
		for _, l := range level {
			f(l)
			for _, x := range of {
				longer = append(longer, append(slices.Clone(l), x))
			}
		}
		level = longer
	}
}

// smalls calls f with all small loads, with all that may run, as short and longer, and with each mask of their places and of one beyond.
func smalls(f func(loads []uint64, running []bool, mask uint64)) {
	rows(3, []uint64{0, 1, greatest}, func(loads []uint64) {
		rows(4, []bool{false, true}, func(running []bool) {
			for mask := range uint64(1) << (len(loads) + 1) {
				f(loads, running, mask)
			}
			f(loads, running, every)
		})
	})
}

// longs calls f with long loads without a pattern, of all sizes, of few, and of 0 almost alone, of which as many run, most of them or few, and with masks of many Ps and of few.
func longs(f func(loads []uint64, running []bool, mask uint64)) {
	s := scattered(9000)
	for i := 0; i+303 < len(s); i += 7 {
		n := int(s[i]%100) + 1
		wild := s[i+3 : i+3+n]
		few, zeros := slices.Clone(wild), slices.Clone(wild)
		running := make([]bool, int(s[i+1]%100))
		for k := range few {
			few[k] = few[k]>>3%4 + s[i]%2
			zeros[k] = zeros[k] >> 3 % 9 / 8
		}
		for k := range running {
			running[k] = s[i+103+k]>>5%8 > s[i+2]%8
		}
		for _, mask := range []uint64{every, s[i+1], ^s[i+1], s[i+1] * 0x9e3779b97f4a7c15, 1 << (s[i+2] % 64)} {
			f(wild, running, mask)
			f(few, running, mask)
			f(zeros, running, mask)
		}
	}
}

// TestModel holds P17.1 and P17.2 to the chapter's words, for all small loads, runnings and masks, and many long ones.
func TestModel(t *testing.T) {
	hold := func(loads []uint64, running []bool, mask uint64) {
		idle(t, loads, running, mask, wantIdle(loads, running, mask))
		for _, prev := range prevs(min(len(loads), 70)) {
			want, fault := wantChoose(loads, running, prev, mask)
			choose(t, loads, running, prev, mask, want, fault)
		}
	}
	smalls(hold)
	longs(hold)
}

// TestChosen holds P17.3: what is chosen may be; it is idle, if some P is; else its load is the least one.
func TestChosen(t *testing.T) {
	hold := func(loads []uint64, running []bool, mask uint64) {
		may, free := maybe(loads, mask), idles(loads, running, mask)
		for _, prev := range prevs(min(len(loads), 70)) {
			p, e := place.Choose(loads, running, prev, mask)
			if e != api.OK {
				if len(may) > 0 {
					t.Fatalf("Choose(%v, %v, %d, %#x): %d, though %v may be", loads, running, prev, mask, e, may)
				}
				continue
			}
			if !slices.Contains(may, p) {
				t.Fatalf("Choose(%v, %v, %d, %#x): %d may not be", loads, running, prev, mask, p)
			}
			if len(free) > 0 && !slices.Contains(free, p) {
				t.Fatalf("Choose(%v, %v, %d, %#x): %d, though %v are idle", loads, running, prev, mask, p, free)
			}
			for _, other := range may {
				if loads[other] < loads[p] {
					t.Fatalf("Choose(%v, %v, %d, %#x): %d, though %d has less", loads, running, prev, mask, p, other)
				}
			}
		}
	}
	smalls(hold)
	longs(hold)
}

// TestAgain holds R2, R3 and R4: no answer hangs on what was asked ahead, nor on what stands behind a slice's end.
func TestAgain(t *testing.T) {
	loads, running := []uint64{4, 6, 2, 0, 9}, []bool{true, false, true, true, true}
	for range 3 {
		choose(t, loads, running[:3], 2, every, 3, api.OK)
		choose(t, loads, running, 2, every, 3, api.OK)
		choose(t, loads[:3], running[:3], 1, every, 2, api.OK)
		choose(t, loads[:2], running[:2], 1, every, 0, api.OK)
		choose(t, loads[:0], running[:0], 1, every, 0, api.ErrMask)
		choose(t, nil, nil, 1, every, 0, api.ErrMask)
		choose(t, loads, running[:0], 4, 1<<4, 4, api.OK)
		idle(t, loads, running[:3], every, 3)
		idle(t, loads, running, every, none)
		idle(t, loads[:3], running[:0], every, none)
		idle(t, loads, nil, every, 3)
		idle(t, loads, []bool{}, every, 3)
		idle(t, nil, nil, every, none)
	}
}
