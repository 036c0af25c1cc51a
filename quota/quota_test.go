package quota_test

import (
	"math"
	"slices"
	"testing"

	"dole/api"
	"dole/quota"
)

// By the chapter's words.
const (
	most    = 64             // Ps
	longest = 1000000000     // of a charge
	end     = int64(1) << 40 // of a quota, and of a slice
)

// told is all that a band tells.
type told struct {
	limited     bool
	pool, spent int64
	local       []int64
}

func look(b *quota.Band, ps int) told {
	s := told{limited: b.Limited(), pool: b.Pool(), spent: b.Spent()}
	for p := range ps {
		s.local = append(s.local, b.Local(p))
	}
	return s
}

func (s told) is(o told) bool {
	return s.limited == o.limited && s.pool == o.pool && s.spent == o.spent && slices.Equal(s.local, o.local)
}

// room is how many Ps a band has, as its calls tell it: one without a limit ensures each P that there is. It ends one beyond the most, so that a band without an end is told, too.
func room(b *quota.Band) int {
	n := 0
	for n <= most && b.Ensure(n) {
		n++
	}
	return n
}

func made(t *testing.T, ps int) *quota.Band {
	t.Helper()
	b, e := quota.New(ps)
	if e != api.OK || b == nil {
		t.Fatalf("New(%d): %v, %d", ps, b, e)
	}
	return b
}

// limited is a new band of a quota.
func limited(t *testing.T, ps int, quota, slice int64) *quota.Band {
	t.Helper()
	b := made(t, ps)
	set(t, b, quota, slice)
	return b
}

func set(t *testing.T, b *quota.Band, quota, slice int64) {
	t.Helper()
	if e := b.Set(quota, slice); e != api.OK {
		t.Fatalf("Set(%d, %d): %d", quota, slice, e)
	}
}

// ensure holds Ensure to what it should say.
func ensure(t *testing.T, b *quota.Band, p int, want bool) {
	t.Helper()
	if is := b.Ensure(p); is != want {
		t.Fatalf("Ensure(%d): %v", p, is)
	}
}

// charge holds a Charge that may be to what it should say.
func charge(t *testing.T, b *quota.Band, p int, ns int64, want bool) {
	t.Helper()
	if is, e := b.Charge(p, ns); is != want || e != api.OK {
		t.Fatalf("Charge(%d, %d): %v, %d; wanted %v", p, ns, is, e, want)
	}
}

// holds holds a band to just these Ps, with their local times; whether it has a limit is held too.
func holds(t *testing.T, b *quota.Band, is bool, pool, spent int64, local ...int64) {
	t.Helper()
	got, want := look(b, len(local)), told{is, pool, spent, local}
	if !got.is(want) {
		t.Fatalf("the band tells %v; wanted %v", got, want)
	}
	for _, p := range noPs(len(local)) {
		if n := b.Local(p); n != 0 {
			t.Fatalf("Local(%d), which is no P: %d", p, n)
		}
	}
}

// noPs are numbers that are no Ps where there are so many.
func noPs(ps int) []int {
	return []int{-1, -2, -ps, -ps - 1, ps, ps + 1, 2 * ps, most, most + 1, 255, 256, 1 << 16, 1 << 32, -1 << 32, math.MaxInt, math.MaxInt - 1, math.MinInt, math.MinInt + 1}
}

// TestExamples holds P12.1 and P12.2 to the chapter's example, and to what the document's ten say of quotas.
func TestExamples(t *testing.T) {
	b := limited(t, 2, 10, 4)
	ensure(t, b, 0, true)
	holds(t, b, true, 6, 0, 4, 0)
	charge(t, b, 0, 5, true)
	holds(t, b, true, 1, 5, 4, 0)
	ensure(t, b, 1, true)
	holds(t, b, true, 0, 5, 4, 1)
	charge(t, b, 1, 3, false)
	holds(t, b, true, 0, 8, 4, -2)
	b.Refill()
	holds(t, b, true, 10, 0, 0, -2)

	b = limited(t, 1, 30, 10)
	ensure(t, b, 0, true)
	charge(t, b, 0, 10, true)
	charge(t, b, 0, 10, true)
	charge(t, b, 0, 10, false)
	holds(t, b, true, 0, 30, 0)
	b.Refill()
	ensure(t, b, 0, true)
	holds(t, b, true, 20, 0, 10)
}

// TestNew holds P12.1 of New: each number of Ps that may be, with just so many Ps, without a limit, and all 0.
func TestNew(t *testing.T) {
	for ps := 1; ps <= most; ps++ {
		b := made(t, ps)
		holds(t, b, false, 0, 0, make([]int64, ps)...)
		if n := room(b); n != ps {
			t.Fatalf("New(%d) has %d Ps", ps, n)
		}
		holds(t, b, false, 0, 0, make([]int64, ps)...)
	}
}

// TestNewFails holds P12.1 of New, and R1: a number of Ps that may not be.
func TestNewFails(t *testing.T) {
	for _, ps := range []int{0, -1, -2, -most, most + 1, most + 2, 2 * most, 256, 1 << 16, 1<<32 + 1, 1<<32 + most, -1<<32 + 1, math.MaxInt, math.MaxInt - 1, math.MinInt, math.MinInt + 1} {
		if b, e := quota.New(ps); b != nil || e != api.ErrArg {
			t.Fatalf("New(%d): %v, %d", ps, b, e) // the next ones would take all memory that there is
		}
	}
}

// inUse are bands in all states: without a limit, new and charged; with one, whose Ps have time, owe some, and have none.
func inUse(t *testing.T) []*quota.Band {
	t.Helper()
	free := made(t, 3)
	charge(t, free, 1, 7, true)
	full := limited(t, 3, 100, 10)
	some := limited(t, 3, 100, 10)
	ensure(t, some, 0, true)
	charge(t, some, 1, 4, true)
	charge(t, some, 1, 13, true)
	out := limited(t, 3, 10, 10)
	charge(t, out, 0, 6, true)
	charge(t, out, 2, 5, false)
	charge(t, out, 0, 10, false)
	return []*quota.Band{made(t, 3), free, full, some, out}
}

// TestInUse holds P12.2 at the states from which other tests begin.
func TestInUse(t *testing.T) {
	l := inUse(t)
	holds(t, l[0], false, 0, 0, 0, 0, 0)
	holds(t, l[1], false, 0, 7, 0, 0, 0)
	holds(t, l[2], true, 100, 0, 0, 0, 0)
	// P 1: 4 are owed, 14 come, 10 are left; 13 more: 3 are owed, 13 come.
	holds(t, l[3], true, 63, 17, 10, 10, 0)
	// P 0: 6 are owed, all 10 come, 4 are left, 10 more: 6 are owed.
	holds(t, l[4], true, 0, 21, -6, 0, -5)
}

// TestSet holds P12.1 of Set: in all states a quota begins anew, with each quota and slice that may be, also at the bounds.
func TestSet(t *testing.T) {
	for _, r := range [][2]int64{
		{1, 1}, {1, 2}, {2, 1}, {10, 4}, {4, 10}, {1, end}, {end, 1}, {end, end}, {end - 1, end - 1}, {1 << 32, 1 << 31}, {longest, longest},
	} {
		for i := range inUse(t) {
			b := inUse(t)[i]
			set(t, b, r[0], r[1])
			holds(t, b, true, r[0], 0, 0, 0, 0)
			got := min(r[0], r[1])
			ensure(t, b, 2, true)
			holds(t, b, true, r[0]-got, 0, 0, 0, got)
			set(t, b, r[0], r[1])
			holds(t, b, true, r[0], 0, 0, 0, 0)
		}
	}
}

// TestSetNone holds P12.1 of Set: a quota of 0 is no limit, whatever the slice is, and all is 0 then.
func TestSetNone(t *testing.T) {
	for _, slice := range []int64{0, 1, 4, -1, end, end + 1, 1 << 62, math.MaxInt64, math.MinInt64} {
		for i := range inUse(t) {
			b := inUse(t)[i]
			set(t, b, 0, slice)
			holds(t, b, false, 0, 0, 0, 0, 0)
			ensure(t, b, 0, true)
			charge(t, b, 0, 9, true)
			b.Return(0)
			holds(t, b, false, 0, 9, 0, 0, 0)
			b.Refill()
			holds(t, b, false, 0, 0, 0, 0, 0)
		}
	}
}

// TestSetFails holds P12.1 of Set, and R1: a quota or a slice that may not be changes nothing, nor what is done next.
func TestSetFails(t *testing.T) {
	for _, r := range [][2]int64{
		{-1, 4}, {-1, 0}, {-end, 4}, {end + 1, 4}, {end + 1, 0}, {end + 1, end + 1}, {1<<62 + 10, 4}, {math.MaxInt64, 4}, {math.MinInt64, 4}, {math.MinInt64, math.MinInt64},
		{10, 0}, {10, -1}, {1, 0}, {end, 0}, {10, end + 1}, {10, -end}, {1, end + 1}, {10, 1<<62 + 4}, {10, math.MaxInt64}, {10, math.MinInt64},
	} {
		for i, b := range inUse(t) {
			twin := inUse(t)[i]
			if e := b.Set(r[0], r[1]); e != api.ErrArg {
				t.Fatalf("Set(%d, %d): %d", r[0], r[1], e)
			}
			sameOn(t, b, twin)
		}
	}
}

// sameOn holds a band to its twin, as both are, and through calls in which the quota and the slice are seen.
func sameOn(t *testing.T, b, twin *quota.Band) {
	t.Helper()
	same := func(what string) {
		t.Helper()
		if got, want := look(b, 3), look(twin, 3); !got.is(want) {
			t.Fatalf("%s: %v; its twin is %v", what, got, want)
		}
	}
	same("at first")
	b.Refill()
	twin.Refill()
	same("refilled")
	for p := range 3 {
		if is := b.Ensure(p); is != twin.Ensure(p) {
			t.Fatalf("Ensure(%d): %v", p, is)
		}
		same("ensured")
	}
}

// TestEnsure holds P12.2 of Ensure, at local times above 0, at 0, and below it, and at pools at, just beside, and far off what is asked for.
func TestEnsure(t *testing.T) {
	for _, r := range []struct {
		quota, slice, spent int64 // so much is charged ahead, on P 0, that never was ensured
		first               int64 // it has then
		pool                int64 // and that is left
	}{
		{10, 4, 0, 4, 6}, {10, 9, 0, 9, 1}, {10, 10, 0, 10, 0}, {10, 11, 0, 10, 0}, {10, end, 0, 10, 0}, {1, 1, 0, 1, 0}, {end, end, 0, end, 0}, {end, 1, 0, 1, end - 1},
		{10, 4, 1, 4, 5}, {10, 4, 5, 4, 1}, {10, 4, 6, 4, 0}, {10, 4, 7, 3, 0}, {10, 4, 9, 1, 0}, {10, 4, 10, 0, 0}, {10, 4, 11, -1, 0}, {10, 4, longest, 10 - longest, 0},
		{end, 1, longest, 1, end - longest - 1}, {end, end, longest, end - longest, 0}, {longest, longest, longest, 0, 0}, {longest + 1, 1, longest, 1, 0}, {longest + 1, 2, longest, 1, 0},
	} {
		b := limited(t, 1, r.quota, r.slice)
		charge(t, b, 0, r.spent, r.first > 0)
		holds(t, b, true, r.pool, r.spent, r.first)
		// Above 0 it has enough, at 0 or below it there is nothing more to have: so it stays, however often.
		for range 3 {
			ensure(t, b, 0, r.first > 0)
			holds(t, b, true, r.pool, r.spent, r.first)
		}
	}
}

// TestEnsureAboveNothing holds P12.2 of Ensure: of a local time above 0, be it the least one, nothing is drawn; at 0 a slice is.
func TestEnsureAboveNothing(t *testing.T) {
	b := limited(t, 1, 100, 10)
	charge(t, b, 0, 0, true)
	holds(t, b, true, 90, 0, 10)
	for n := int64(1); n <= 9; n++ {
		charge(t, b, 0, 1, true)
		ensure(t, b, 0, true)
		holds(t, b, true, 90, n, 10-n)
	}
	charge(t, b, 0, 1, true)
	holds(t, b, true, 80, 10, 10)
}

// TestEnsureOwing holds P12.2 of Ensure: of a P that owes, a refilled pool pays as much as it has, and no P is ensured that is at 0, or below it.
func TestEnsureOwing(t *testing.T) {
	b := limited(t, 2, 10, 4)
	charge(t, b, 0, 35, false)
	for _, owes := range []int64{25, 15, 5} {
		holds(t, b, true, 0, b.Spent(), -owes, 0)
		ensure(t, b, 1, false)
		b.Refill()
		holds(t, b, true, 10, 0, -owes, 0)
		ensure(t, b, 0, owes < 10)
	}
	holds(t, b, true, 1, 0, 4, 0)
	ensure(t, b, 1, true)
	holds(t, b, true, 0, 0, 4, 1)

	b = limited(t, 1, 10, 4)
	charge(t, b, 0, 20, false)
	b.Refill()
	ensure(t, b, 0, false)
	holds(t, b, true, 0, 0, 0)
	b.Refill()
	ensure(t, b, 0, true)
	holds(t, b, true, 6, 0, 4)
}

// TestFree holds P12.2 without a limit: each P is ensured, whatever is charged, and but what was spent goes on.
func TestFree(t *testing.T) {
	b := made(t, 2)
	spent := int64(0)
	for _, ns := range []int64{0, 1, 5, longest - 1, longest, longest} {
		for p := range 2 {
			ensure(t, b, p, true)
			charge(t, b, p, ns, true)
			spent += ns
			b.Return(p)
			holds(t, b, false, 0, spent, 0, 0)
		}
	}
	b.Refill()
	holds(t, b, false, 0, 0, 0, 0)
	ensure(t, b, 1, true)
	holds(t, b, false, 0, 0, 0, 0)
}

// TestCharge holds P12.2 of Charge: each P has its own local time, and what was spent is of all.
func TestCharge(t *testing.T) {
	b := limited(t, 3, 100, 10)
	charge(t, b, 1, 0, true)
	holds(t, b, true, 90, 0, 0, 10, 0)
	charge(t, b, 1, 9, true)
	holds(t, b, true, 90, 9, 0, 1, 0)
	charge(t, b, 2, 1, true)
	holds(t, b, true, 79, 10, 0, 1, 10)
	charge(t, b, 1, 1, true)
	holds(t, b, true, 69, 11, 0, 10, 10)
	charge(t, b, 0, 59, true)
	holds(t, b, true, 0, 70, 10, 10, 10)
	charge(t, b, 0, 9, true)
	charge(t, b, 1, 10, false)
	charge(t, b, 2, 11, false)
	holds(t, b, true, 0, 100, 1, 0, -1)
	charge(t, b, 2, 0, false)
	charge(t, b, 1, 0, false)
	charge(t, b, 0, 0, true)
	charge(t, b, 2, longest, false)
	holds(t, b, true, 0, 100+longest, 1, 0, -1-longest)
}

// TestChargeFails holds P12.2 of Charge, and R1: an error changes nothing, false is said also of a P that is ensured, and of two errors ErrArg is.
func TestChargeFails(t *testing.T) {
	wrong := []int64{-1, -2, -longest, longest + 1, longest + 2, 1 << 32, 1<<32 + 1, -1<<32 + 1, math.MaxInt64, math.MinInt64, math.MinInt64 + 1}
	fails := func(b, twin *quota.Band, p int, ns int64, want api.Errno) {
		t.Helper()
		if is, e := b.Charge(p, ns); is || e != want {
			t.Fatalf("Charge(%d, %d): %v, %d; wanted %d", p, ns, is, e, want)
		}
		if got, want := look(b, 3), look(twin, 3); !got.is(want) {
			t.Fatalf("Charge(%d, %d), which was refused: %v; it was %v", p, ns, got, want)
		}
	}
	for i, b := range inUse(t) {
		twin := inUse(t)[i]
		for _, ns := range wrong {
			for p := range 3 {
				fails(b, twin, p, ns, api.ErrTick)
			}
		}
		for _, p := range noPs(3) {
			for _, ns := range append(wrong, 0, 1, longest) {
				fails(b, twin, p, ns, api.ErrArg)
			}
		}
		sameOn(t, b, twin)
	}
}

// TestNoP holds P12.2 of a P that there isn't: it is not ensured, has nothing to give back, and nothing is changed, with a limit or without.
func TestNoP(t *testing.T) {
	for i, b := range inUse(t) {
		twin := inUse(t)[i]
		for _, p := range noPs(3) {
			ensure(t, b, p, false)
			b.Return(p)
			if n := b.Local(p); n != 0 {
				t.Fatalf("Local(%d): %d", p, n)
			}
		}
		sameOn(t, b, twin)
	}
}

// TestReturn holds P12.2 of Return: what one P has goes to the pool, if it has any, and all others keep theirs.
func TestReturn(t *testing.T) {
	b := limited(t, 4, 40, 10)
	charge(t, b, 0, 3, true)
	charge(t, b, 0, 3, true)
	ensure(t, b, 1, true)
	charge(t, b, 2, 17, false)
	charge(t, b, 3, 2, false)
	charge(t, b, 1, 10, false)
	holds(t, b, true, 0, 35, 7, 0, 0, -2)
	for p := 1; p < 4; p++ {
		b.Return(p)
		holds(t, b, true, 0, 35, 7, 0, 0, -2)
	}
	b.Return(0)
	holds(t, b, true, 7, 35, 0, 0, 0, -2)
	b.Return(0)
	holds(t, b, true, 7, 35, 0, 0, 0, -2)
	ensure(t, b, 3, true)
	holds(t, b, true, 0, 35, 0, 0, 0, 5)
	charge(t, b, 3, 4, true)
	b.Return(3)
	holds(t, b, true, 1, 39, 0, 0, 0, 0)

	b = limited(t, 1, end, end)
	ensure(t, b, 0, true)
	b.Return(0)
	holds(t, b, true, end, 0, 0)
}

// TestRefill holds P12.2 of Refill: local times above 0, at 0, and below it, with the pool empty, or not; what one P had is not in the pool twice.
func TestRefill(t *testing.T) {
	b := limited(t, 4, 40, 10)
	charge(t, b, 0, 9, true)
	ensure(t, b, 1, true)
	charge(t, b, 2, 10, true)
	charge(t, b, 3, 7, false)
	charge(t, b, 2, 1, false)
	holds(t, b, true, 0, 27, 10, 10, 0, -7)
	for range 2 {
		b.Refill()
		holds(t, b, true, 40, 0, 0, 0, 0, -7)
	}
	ensure(t, b, 0, true)
	charge(t, b, 0, 9, true)
	holds(t, b, true, 30, 9, 1, 0, 0, -7)
	b.Refill()
	holds(t, b, true, 40, 0, 0, 0, 0, -7)
}

// TestNil holds P12.3 of a Band that is nil.
func TestNil(t *testing.T) {
	var b *quota.Band
	for _, r := range [][2]int64{{0, 0}, {10, 4}, {-1, 4}, {10, 0}} {
		if e := b.Set(r[0], r[1]); e != api.ErrArg {
			t.Errorf("Set(%d, %d): %d", r[0], r[1], e)
		}
	}
	for _, p := range append(noPs(3), 0, 1, most-1) {
		ensure(t, b, p, false)
		for _, ns := range []int64{0, 1, longest, -1, longest + 1} {
			if is, e := b.Charge(p, ns); is || e != api.ErrArg {
				t.Errorf("Charge(%d, %d): %v, %d", p, ns, is, e)
			}
		}
		b.Return(p)
		if n := b.Local(p); n != 0 {
			t.Errorf("Local(%d): %d", p, n)
		}
	}
	b.Refill()
	holds(t, b, false, 0, 0)
}

// TestApart holds R4: what is done with one band is not seen of another one.
func TestApart(t *testing.T) {
	a, b := limited(t, 2, 10, 4), limited(t, 2, 20, 5)
	ensure(t, a, 0, true)
	holds(t, b, true, 20, 0, 0, 0)
	charge(t, b, 1, 7, true)
	holds(t, a, true, 6, 0, 4, 0)
	holds(t, b, true, 8, 7, 0, 5)
	set(t, a, 0, 0)
	b.Refill()
	holds(t, a, false, 0, 0, 0, 0)
	holds(t, b, true, 20, 0, 0, 0)
}
