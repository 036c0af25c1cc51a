package pull_test

import (
	"cmp"
	"math"
	"math/big"
	"slices"
	"testing"

	"dole/pull"
)

// By the chapter's words.
const (
	greatest = math.MaxUint64
	every    = math.MaxUint64 // the mask of all Ps
)

// numbers are small ones, powers of two with their neighbours, and the greatest ones: rising, each once.
func numbers() []uint64 {
	l := []uint64{0, 1, 2, 3, 4, 5, 6, 7, 10, 1000, 12297829382473034411, greatest - 2, greatest - 1, greatest}
	for _, i := range []int{8, 16, 18, 31, 32, 33, 53, 62, 63} {
		p := uint64(1) << i
		l = append(l, p-1, p, p+1)
	}
	slices.Sort(l)
	return slices.Compact(l)
}

// scattered are numbers of all sizes without a pattern, the same ones each time.
func scattered(n int) []uint64 {
	l := make([]uint64, 0, n)
	x := uint64(88172645463325252)
	for range n {
		x ^= x << 13
		x ^= x >> 7
		x ^= x << 17
		l = append(l, x>>(x%64))
	}
	return l
}

// whole is a number without an end.
func whole(n uint64) *big.Int { return new(big.Int).SetUint64(n) }

// above is a less b, or 0.
func above(a, b uint64) uint64 {
	d := new(big.Int).Sub(whole(a), whole(b))
	if d.Sign() < 0 {
		return 0
	}
	return d.Uint64()
}

// apart is how far two loads are from each other, either way.
func apart(a, b uint64) uint64 { return max(above(a, b), above(b, a)) }

// task is one that may be on all Ps and doesn't run.
func task(id int, weight uint64) pull.Cand {
	return pull.Cand{Id: id, Weight: weight, Mask: every}
}

// tasks are such ones of these weights, whose Ids rise.
func tasks(weights ...uint64) []pull.Cand {
	var l []pull.Cand
	for id, w := range weights {
		l = append(l, task(id, w))
	}
	return l
}

// wantMay is by the chapter's words.
func wantMay(c pull.Cand, gap uint64, p int) bool {
	if p < 0 || p > 63 || whole(c.Mask).Bit(p) == 0 {
		return false
	}
	return !c.Runs && c.Weight != 0 && whole(c.Weight).Cmp(whole(gap)) < 0
}

// wantChoose sorts by the chapter's words: the places of those that May, best first.
func wantChoose(l []pull.Cand, from, to uint64, p int) (int, bool) {
	gap := above(from, to)
	var fit, heavy []int
	for i, c := range l {
		twice := new(big.Int).Lsh(whole(c.Weight), 1)
		switch {
		case !wantMay(c, gap, p):
		case twice.Cmp(whole(gap)) <= 0:
			fit = append(fit, i)
		default:
			heavy = append(heavy, i)
		}
	}
	// A stable sort leaves the first such one ahead.
	slices.SortStableFunc(fit, func(a, b int) int {
		return cmp.Or(cmp.Compare(l[b].Weight, l[a].Weight), cmp.Compare(l[a].Id, l[b].Id))
	})
	slices.SortStableFunc(heavy, func(a, b int) int {
		return cmp.Or(cmp.Compare(l[a].Weight, l[b].Weight), cmp.Compare(l[a].Id, l[b].Id))
	})
	for _, i := range append(fit, heavy...) {
		return i, true
	}
	return 0, false
}

// may holds May to what it should say.
func may(t *testing.T, c pull.Cand, gap uint64, p int, want bool) {
	t.Helper()
	if is := pull.May(c, gap, p); is != want {
		t.Fatalf("May(%+v, %d, %d): %v; wanted %v", c, gap, p, is, want)
	}
}

// choose holds Choose likewise, and those that are handed in to stay as they are.
func choose(t *testing.T, l []pull.Cand, from, to uint64, p int, want int, wanted bool) {
	t.Helper()
	asked := slices.Clone(l)
	if i, is := pull.Choose(l, from, to, p); i != want || is != wanted {
		t.Fatalf("Choose(%+v, %d, %d, %d): %d, %v; wanted %d, %v", asked, from, to, p, i, is, want, wanted)
	}
	if !slices.Equal(l, asked) {
		t.Fatalf("of %+v Choose leaves %+v", asked, l)
	}
}

// after holds After likewise.
func after(t *testing.T, from, to, w, wantFrom, wantTo uint64) {
	t.Helper()
	if a, b := pull.After(from, to, w); a != wantFrom || b != wantTo {
		t.Fatalf("After(%d, %d, %d): %d, %d; wanted %d, %d", from, to, w, a, b, wantFrom, wantTo)
	}
}

// TestExamples holds P16.1 and P16.2 to the chapter's example.
func TestExamples(t *testing.T) {
	choose(t, tasks(5, 3), 8, 0, 0, 1, true)
	choose(t, tasks(3, 5), 8, 0, 0, 0, true)
	after(t, 8, 0, 3, 5, 3)
}

// TestMayNamed holds P16.1's May to what is worked out by hand.
func TestMayNamed(t *testing.T) {
	for _, r := range []struct {
		c    pull.Cand
		gap  uint64
		p    int
		want bool
	}{
		{pull.Cand{Id: 1, Weight: 1024, Mask: 0b1010}, 1025, 1, true},
		{pull.Cand{Id: 1, Weight: 1024, Mask: 0b1010}, 1025, 3, true},
		{pull.Cand{Id: 1, Weight: 1024, Mask: 0b1010}, 1025, 0, false},
		{pull.Cand{Id: 1, Weight: 1024, Mask: 0b1010}, 1025, 2, false},
		{pull.Cand{Id: 1, Weight: 1024, Mask: 0b1010}, 1025, 4, false},
		{pull.Cand{Id: 1, Weight: 1024, Mask: 0b1010, Runs: true}, 1025, 1, false},
		{pull.Cand{Id: 1, Weight: 1024, Mask: 0b1010}, 1024, 1, false}, // below the gap, not at it
		{pull.Cand{Id: 1, Weight: 1024, Mask: 0b1010}, 1023, 1, false},
		{pull.Cand{Id: 1, Weight: 1024, Mask: 0b1010}, greatest, 1, true},
		{pull.Cand{Id: 1, Weight: 1024, Mask: 0b1010}, 0, 1, false},
		{pull.Cand{Id: 1, Weight: 1024}, 1025, 1, false},
		{pull.Cand{}, 0, 0, false},
		{pull.Cand{}, 9, 0, false},
		{task(0, 0), 9, 0, false}, // a weight above 0
		{task(0, 0), greatest, 0, false},
		{task(0, 0), 0, 0, false},
		{task(0, 1), 0, 0, false},
		{task(0, 1), 1, 0, false},
		{task(0, 1), 2, 0, true},
		{task(-5, 1), 2, 0, true}, // no Id keeps one from being pulled
		{task(math.MinInt, 1), 2, 0, true},
		{task(math.MaxInt, 1), 2, 0, true},
		// Great weights are no lesser ones, nor are great gaps.
		{task(0, 1<<63), 1<<63 + 1, 0, true},
		{task(0, 1<<63), 1 << 63, 0, false},
		{task(0, 1<<63-1), 1 << 63, 0, true},
		{task(0, 1<<63), 1<<63 - 1, 0, false},
		{task(0, greatest), greatest, 0, false},
		{task(0, greatest-1), greatest, 0, true},
		{task(0, greatest), 1, 0, false},
		{task(0, 1<<32), 5, 0, false},
		{task(0, 1<<32), 1<<32 + 1, 0, true},
		// A p that is none.
		{task(0, 1), 9, 63, true},
		{task(0, 1), 9, 64, false},
		{task(0, 1), 9, 65, false},
		{task(0, 1), 9, 128, false},
		{task(0, 1), 9, 256, false},
		{task(0, 1), 9, 1 << 32, false},
		{task(0, 1), 9, math.MaxInt, false},
		{task(0, 1), 9, -1, false},
		{task(0, 1), 9, -64, false},
		{task(0, 1), 9, math.MinInt, false},
	} {
		may(t, r.c, r.gap, r.p, r.want)
	}
}

// TestMayPs holds May, for each P and far beyond them, to the bits of a mask.
func TestMayPs(t *testing.T) {
	masks := append(scattered(200), 0, every)
	for bit := range 64 {
		masks = append(masks, 1<<bit, ^(1 << bit))
	}
	for _, mask := range masks {
		for p := -200; p < 300; p++ {
			c := pull.Cand{Id: p, Weight: 5, Mask: mask}
			may(t, c, 6, p, wantMay(c, 6, p))
			may(t, c, 5, p, false)
			c.Runs = true
			may(t, c, 6, p, false)
		}
	}
}

// TestMayWeights holds May, for each weight and each gap, to numbers without an end.
func TestMayWeights(t *testing.T) {
	for _, w := range numbers() {
		for _, gap := range numbers() {
			may(t, task(3, w), gap, 63, wantMay(task(3, w), gap, 63))
			may(t, pull.Cand{Id: 3, Weight: w, Mask: every / 2}, gap, 63, false)
		}
	}
}

// TestChooseNamed holds P16.1's Choose, of tasks that may be on all Ps, to what is worked out by hand.
func TestChooseNamed(t *testing.T) {
	for _, r := range []struct {
		l        []pull.Cand
		from, to uint64
		want     int
		wanted   bool
	}{
		{nil, 100, 0, 0, false},
		{[]pull.Cand{}, 100, 0, 0, false},
		{tasks(5, 6)[:0], 100, 0, 0, false},
		// The heaviest of which twice the weight is no more than the gap.
		{tasks(1, 2, 3, 4, 5, 6), 10, 0, 4, true},
		{tasks(1, 2, 3, 4, 5, 6), 9, 0, 3, true}, // 4 twice is 8, 5 twice more than 9
		{tasks(1, 2, 3, 4, 5, 6), 8, 0, 3, true},
		{tasks(1, 2, 3, 4, 5, 6), 7, 0, 2, true},
		{tasks(1, 2, 3, 4, 5, 6), 12, 0, 5, true},
		{tasks(1, 2, 3, 4, 5, 6), 1000, 0, 5, true},
		{tasks(6, 5, 4, 3, 2, 1), 10, 0, 1, true},
		{tasks(6, 5, 4, 3, 2, 1), 110, 100, 1, true}, // the gap alone counts
		{tasks(3, 1, 5, 2, 6, 4), 10, 0, 2, true},
		{tasks(0, 1, 0), 2, 0, 1, true},
		{tasks(1), 2, 0, 0, true},
		// If there is none, the lightest.
		{tasks(6, 5, 4), 7, 0, 2, true},
		{tasks(4, 5, 6), 7, 0, 0, true},
		{tasks(5, 4, 6), 7, 0, 1, true},
		{tasks(6, 5, 4, 7, 8), 7, 0, 2, true},
		{tasks(7, 8, 6), 7, 0, 2, true}, // those not below the gap may not
		{tasks(2), 3, 0, 0, true},
		{tasks(0, 2), 3, 0, 1, true},
		{tasks(5, 6, 1), 8, 0, 2, true}, // a light one that fits goes ahead of a heavy one
		{tasks(1, 5, 6), 8, 0, 0, true},
		// If none may, none.
		{tasks(7, 8, 9), 7, 0, 0, false},
		{tasks(0, 0), 7, 0, 0, false},
		{tasks(1), 1, 0, 0, false},
		{tasks(5), 5, 5, 0, false},
		{tasks(5), 0, 0, 0, false},
		{tasks(5), 5, 100, 0, false}, // the other P has more
		{tasks(5), 0, greatest, 0, false},
		{tasks(1), greatest, greatest, 0, false},
		{tasks(1), greatest, greatest - 1, 0, false},
		{tasks(1), greatest, greatest - 2, 0, true},
		// Of several alike the one of the least Id, and of those the first one.
		{[]pull.Cand{task(3, 4), task(1, 4), task(2, 4)}, 8, 0, 1, true},
		{[]pull.Cand{task(1, 4), task(3, 4), task(2, 4)}, 8, 0, 0, true},
		{[]pull.Cand{task(3, 4), task(2, 4), task(1, 4)}, 8, 0, 2, true},
		{[]pull.Cand{task(3, 4), task(1, 4), task(1, 4), task(1, 4)}, 8, 0, 1, true},
		{[]pull.Cand{task(1, 4), task(1, 4)}, 8, 0, 0, true},
		{[]pull.Cand{task(3, 4), task(1, 4), task(2, 4)}, 7, 0, 1, true},
		{[]pull.Cand{task(1, 4), task(3, 4), task(2, 4)}, 7, 0, 0, true},
		{[]pull.Cand{task(3, 4), task(2, 4), task(1, 4)}, 7, 0, 2, true},
		{[]pull.Cand{task(3, 4), task(1, 4), task(1, 4), task(1, 4)}, 7, 0, 1, true},
		{[]pull.Cand{task(1, 4), task(1, 4)}, 7, 0, 0, true},
		{[]pull.Cand{task(1, 3), task(9, 4)}, 8, 0, 1, true}, // the weight goes ahead of the Id
		{[]pull.Cand{task(1, 5), task(9, 4)}, 7, 0, 1, true},
		{[]pull.Cand{task(1, 5), task(9, 4)}, 8, 0, 1, true},
		{[]pull.Cand{task(0, 4), task(-1, 4), task(math.MinInt, 4), task(math.MaxInt, 4)}, 8, 0, 2, true},
		{[]pull.Cand{task(0, 4), task(math.MaxInt, 4), task(-1, 4)}, 7, 0, 2, true},
		{[]pull.Cand{task(math.MaxInt, 4)}, 7, 0, 0, true},
		// Twice a great weight is no small one.
		{tasks(1<<63, 1), greatest, 0, 1, true},
		{tasks(1, 1<<63), greatest, 0, 0, true},
		{tasks(1<<63, 1<<63-1), greatest, 0, 1, true},
		{tasks(1<<63-1, 1<<63), greatest, 0, 0, true},
		{tasks(1<<63+1, 1<<63), greatest, 0, 1, true},
		{tasks(1<<63+5, 1<<62), 1<<63 + 6, 0, 1, true},
		{tasks(1<<63, 1<<62), 1 << 63, 0, 1, true},
		{tasks(greatest, greatest-1), greatest, 0, 1, true},
		{tasks(greatest), greatest, 0, 0, false},
		{tasks(1<<32, 1<<16, 1<<33), 1 << 33, 0, 0, true},
	} {
		choose(t, r.l, r.from, r.to, 0, r.want, r.wanted)
	}
}

// TestChooseWhom holds Choose to leave out those that run, or may not be on the P that pulls, however good they are.
func TestChooseWhom(t *testing.T) {
	l := []pull.Cand{
		{Id: 5, Weight: 4, Mask: 0b0001},
		{Id: 4, Weight: 5, Mask: 0b1010, Runs: true},
		{Id: 3, Weight: 3, Mask: 0b0111},
		{Id: 2, Weight: 9, Mask: 0b0010},
		{Id: 1, Weight: 5, Mask: 1 << 63},
	}
	for _, r := range []struct {
		from   uint64
		p      int
		want   int
		wanted bool
	}{
		{10, 0, 0, true}, // 4 and 3 may be there
		{10, 1, 2, true}, // 3 and 9, but 5 runs
		{10, 2, 2, true},
		{10, 3, 0, false}, // 5 alone, and it runs
		{10, 4, 0, false},
		{10, 62, 0, false},
		{10, 63, 4, true},
		{18, 1, 3, true},
		{7, 0, 2, true},
		{3, 1, 0, false},
		{10, 64, 0, false},
		{10, 65, 0, false},
		{10, 66, 0, false},
		{10, 127, 0, false},
		{10, 1 << 32, 0, false},
		{10, math.MaxInt, 0, false},
		{10, -1, 0, false},
		{10, -62, 0, false},
		{10, -64, 0, false},
		{10, math.MinInt, 0, false},
	} {
		choose(t, l, r.from, 0, r.p, r.want, r.wanted)
		choose(t, l, r.from+77, 77, r.p, r.want, r.wanted)
	}
}

// TestChooseGap holds Choose to both sides of the edges of a gap: at twice the weight, and at the weight.
func TestChooseGap(t *testing.T) {
	for _, w := range numbers() {
		if w < 2 || w > 1<<62 {
			continue
		}
		light, heavy := tasks(1, w), tasks(w+1, w)
		for _, to := range []uint64{0, 1, 1 << 62} {
			choose(t, light, to+2*w, to, 7, 1, true)
			choose(t, light, to+2*w-1, to, 7, 0, true)
			choose(t, heavy, to+2*w+2, to, 7, 0, true)
			choose(t, heavy, to+2*w+1, to, 7, 1, true)
			choose(t, heavy, to+w+1, to, 7, 1, true)
			choose(t, heavy, to+w, to, 7, 0, false)
			choose(t, heavy, to, to+w+1, 7, 0, false)
		}
	}
}

// lists calls f with all lists of at most so many of these.
func lists(most int, of []pull.Cand, f func(l []pull.Cand)) {
	level := [][]pull.Cand{nil}
	for range most + 1 {
		var longer [][]pull.Cand
		for _, l := range level {
			f(l)
			for _, c := range of {
				longer = append(longer, append(slices.Clone(l), c))
			}
		}
		level = longer
	}
}

// kinds are tasks of each mix of these.
func kinds(ids []int, weights, masks []uint64, runs []bool) []pull.Cand {
	var l []pull.Cand
	for _, id := range ids {
		for _, w := range weights {
			for _, m := range masks {
				for _, r := range runs {
					l = append(l, pull.Cand{Id: id, Weight: w, Mask: m, Runs: r})
				}
			}
		}
	}
	return l
}

// pairs are loads whose gaps are the small numbers, none, and less than none.
func pairs() [][2]uint64 {
	l := [][2]uint64{{0, 1}, {3, 9}, {0, greatest}, {greatest, greatest}, {greatest, greatest - 3}, {greatest, 0}}
	for gap := range uint64(10) {
		l = append(l, [2]uint64{gap, 0}, [2]uint64{gap + 5, 5})
	}
	return l
}

// smalls calls f with all small lists and loads.
func smalls(f func(l []pull.Cand, from, to uint64, p int)) {
	under := func(most int, of []pull.Cand, ps ...int) {
		lists(most, of, func(l []pull.Cand) {
			for _, pair := range pairs() {
				for _, p := range ps {
					f(l, pair[0], pair[1], p)
				}
			}
		})
	}
	free, both := []bool{false}, []bool{false, true}
	under(4, kinds([]int{1, 2}, []uint64{1, 2, 3, 4}, []uint64{1}, free), 0)
	under(3, kinds([]int{-1, 3}, []uint64{0, 3, greatest - 1}, []uint64{1, 3}, free), 0, 1)
	under(2, kinds([]int{0, 1}, []uint64{0, 2, 3, 5}, []uint64{0, 1, 2, 3}, both), -1, 0, 1, 2, 64, 65)
}

// longs calls f with long lists without a pattern: of few weights and Ids, so that many are alike, and of all.
func longs(f func(l []pull.Cand, from, to uint64, p int)) {
	s := scattered(40000)
	for i := 0; i+300 < len(s); i += 7 {
		wild := make([]pull.Cand, s[i]>>1%60)
		few := slices.Clone(wild)
		for k := range wild {
			a, b, c := s[i+1+4*k], s[i+2+4*k], s[i+3+4*k]
			wild[k] = pull.Cand{Id: int(a), Weight: b, Mask: c | s[i+4+4*k], Runs: a>>2%5 == 0}
			few[k] = pull.Cand{Id: int(a >> 3 % 4), Weight: b >> 2 % 9, Mask: c >> 1 % 8, Runs: a>>1%7 == 0}
		}
		a, b, p := s[i+250], s[i+251], int(s[i+252]>>3%64)
		f(wild, a, b, p)
		f(wild, b, a, p)
		f(wild, max(a, b), 0, p)
		for gap := range uint64(19) {
			f(few, b>>1+gap, b>>1, p%4)
		}
	}
}

// TestModel holds P16.1's Choose to the chapter's words, for all small lists and many long ones.
func TestModel(t *testing.T) {
	hold := func(l []pull.Cand, from, to uint64, p int) {
		i, is := wantChoose(l, from, to, p)
		choose(t, l, from, to, p, i, is)
	}
	smalls(hold)
	longs(hold)
}

// TestAfterNamed holds P16.2 to numbers that are worked out by hand, both sides of the ends among them.
func TestAfterNamed(t *testing.T) {
	for _, r := range []struct{ from, to, w, wantFrom, wantTo uint64 }{
		{0, 0, 0, 0, 0},
		{8, 0, 3, 5, 3},
		{8, 2, 3, 5, 5},
		{8, 2, 8, 0, 10},
		{8, 2, 7, 1, 9},
		{8, 2, 9, 0, 11}, // from would be below 0
		{2, 8, 3, 0, 11},
		{7, 9, 0, 7, 9},
		{0, 5, 1, 0, 6},
		{5, greatest, 1, 4, greatest}, // to would be beyond
		{5, greatest, 0, 5, greatest},
		{5, greatest - 1, 1, 4, greatest},
		{5, greatest - 2, 1, 4, greatest - 1},
		{5, greatest - 1, 2, 3, greatest},
		{greatest, 0, greatest, 0, greatest},
		{greatest, 1, greatest, 0, greatest},
		{greatest, 0, greatest - 1, 1, greatest - 1},
		{greatest - 1, 0, greatest, 0, greatest},
		{greatest, greatest, greatest, 0, greatest},
		{0, 0, greatest, 0, greatest},
		{1 << 63, 1 << 63, 1 << 63, 0, greatest},
		{1 << 63, 1<<63 - 1, 1 << 63, 0, greatest},
		{1 << 63, 1<<63 - 2, 1 << 63, 0, greatest - 1},
		{1<<63 + 5, 5, 1 << 63, 5, 1<<63 + 5},
		{1 << 32, 1, 1, 1<<32 - 1, 2},
	} {
		after(t, r.from, r.to, r.w, r.wantFrom, r.wantTo)
	}
}

// TestAfterExact holds P16.2 against numbers without an end.
func TestAfterExact(t *testing.T) {
	hold := func(from, to, w uint64) {
		sum := new(big.Int).Add(whole(to), whole(w))
		if !sum.IsUint64() {
			sum = whole(greatest)
		}
		after(t, from, to, w, above(from, w), sum.Uint64())
	}
	l := numbers()
	for _, from := range l {
		for _, to := range l {
			for _, w := range l {
				hold(from, to, w)
			}
		}
	}
	s := scattered(20000)
	for i := range len(s) - 2 {
		hold(s[i], s[i+1], s[i+2])
	}
}

// TestGapFalls holds P16.3: behind a pull of one that May the gap, either way, is below what it was, and no load is lost.
func TestGapFalls(t *testing.T) {
	hold := func(c pull.Cand, from, to uint64) {
		if !pull.May(c, above(from, to), 5) {
			return
		}
		a, b := pull.After(from, to, c.Weight)
		if apart(a, b) >= apart(from, to) {
			t.Fatalf("of %d and %d %d is pulled: %d and %d are no nearer", from, to, c.Weight, a, b)
		}
		before, behind := new(big.Int).Add(whole(from), whole(to)), new(big.Int).Add(whole(a), whole(b))
		if before.Cmp(behind) != 0 {
			t.Fatalf("of %d and %d %d is pulled: %d and %d are not as much together", from, to, c.Weight, a, b)
		}
	}
	for from := range uint64(20) {
		for to := range uint64(20) {
			for w := range uint64(25) {
				hold(task(1, w), from, to)
			}
		}
	}
	for _, from := range numbers() {
		for _, to := range numbers() {
			for _, w := range numbers() {
				hold(task(1, w), from, to)
			}
		}
	}
	s := scattered(20000)
	for i := range len(s) - 2 {
		hold(task(1, s[i]), s[i+1], s[i+2])
	}
}

// TestPulled holds P16.3 of Choose: who is pulled is one that May, from a P that has more load, so that the gap falls.
func TestPulled(t *testing.T) {
	hold := func(l []pull.Cand, from, to uint64, p int) {
		i, is := pull.Choose(l, from, to, p)
		if !is {
			return
		}
		if from <= to {
			t.Fatalf("Choose(%+v, %d, %d, %d): %d, though there is no more load", l, from, to, p, i)
		}
		if i < 0 || i >= len(l) || !pull.May(l[i], from-to, p) {
			t.Fatalf("Choose(%+v, %d, %d, %d): %d may not", l, from, to, p, i)
		}
		if a, b := pull.After(from, to, l[i].Weight); apart(a, b) >= from-to {
			t.Fatalf("Choose(%+v, %d, %d, %d): %d: %d and %d are no nearer", l, from, to, p, i, a, b)
		}
	}
	smalls(hold)
	longs(hold)
	for _, from := range numbers() {
		for _, to := range numbers() {
			hold(tasks(numbers()...), from, to, 9)
		}
	}
}

// TestAgain holds R2, R3 and R4: no answer hangs on what was asked ahead, nor on what stands behind a slice's end.
func TestAgain(t *testing.T) {
	all := tasks(2, 5, 3, 4, 9)
	for range 3 {
		choose(t, all, 8, 0, 0, 3, true)
		choose(t, all[:3], 8, 0, 0, 2, true)
		choose(t, all[:1], 8, 0, 0, 0, true)
		choose(t, all[:0], 8, 0, 0, 0, false)
		choose(t, nil, 8, 0, 0, 0, false)
		choose(t, all, 0, 8, 0, 0, false)
		choose(t, all, 100, 0, 0, 4, true)
		may(t, all[1], 6, 0, true)
		may(t, all[1], 5, 0, false)
		after(t, 8, 0, 4, 4, 4)
	}
}
