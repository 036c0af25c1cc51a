package arena_test

import (
	"errors"
	"math"
	"runtime"
	"slices"
	"testing"
	"weak"

	"dole/api"
	"dole/arena"
)

const most = 4096

func at(index, gen int) api.Handle { return api.Handle{Index: index, Gen: gen} }

func made[T any](t *testing.T, room int) *arena.Pool[T] {
	t.Helper()
	p, e := arena.New[T](room)
	if e != api.OK || p == nil {
		t.Fatalf("New(%d): %v, %d", room, p, e)
	}
	return p
}

// put holds Put to a handle that was worked out apart from the program.
func put[T any](t *testing.T, p *arena.Pool[T], x T, want api.Handle) {
	t.Helper()
	if h, e := p.Put(x); h != want || e != api.OK {
		t.Fatalf("Put: %v, %d; wanted %v", h, e, want)
	}
}

func full[T any](t *testing.T, p *arena.Pool[T], x T) {
	t.Helper()
	if h, e := p.Put(x); h != at(0, 0) || e != api.ErrFull {
		t.Fatalf("Put into a full pool: %v, %d", h, e)
	}
}

func free[T comparable](t *testing.T, p *arena.Pool[T], h api.Handle, want T) {
	t.Helper()
	if x, e := p.Free(h); x != want || e != api.OK {
		t.Fatalf("Free(%v): %v, %d; wanted %v", h, x, e, want)
	}
}

func named[T comparable](t *testing.T, p *arena.Pool[T], h api.Handle, want T) {
	t.Helper()
	if x, e := p.Get(h); x != want || e != api.OK {
		t.Fatalf("Get(%v): %v, %d; wanted %v", h, x, e, want)
	}
}

// nothing holds all three calls at a handle that names nothing to ErrHandle, a thing that is zero, and a pool that stays as it is.
func nothing[T comparable](t *testing.T, p *arena.Pool[T], h api.Handle, other T) {
	t.Helper()
	var none T
	before, n := things(t, p), p.Len()
	if x, e := p.Get(h); x != none || e != api.ErrHandle {
		t.Fatalf("Get(%v), which names nothing: %v, %d", h, x, e)
	}
	if e := p.Set(h, other); e != api.ErrHandle {
		t.Fatalf("Set(%v), which names nothing: %d", h, e)
	}
	if x, e := p.Free(h); x != none || e != api.ErrHandle {
		t.Fatalf("Free(%v), which names nothing: %v, %d", h, x, e)
	}
	if p.Len() != n || !slices.Equal(things(t, p), before) {
		t.Fatalf("a call at %v, which names nothing, changed the pool", h)
	}
}

// laid is a thing with the handle that names it.
type laid[T any] struct {
	h api.Handle
	x T
}

// things are all that there are, as All and Get tell them.
func things[T any](t *testing.T, p *arena.Pool[T]) []laid[T] {
	t.Helper()
	var out []laid[T]
	for _, h := range p.All() {
		x, e := p.Get(h)
		if e != api.OK {
			t.Fatalf("All told %v, but Get says %d", h, e)
		}
		out = append(out, laid[T]{h, x})
	}
	return out
}

// holds holds a pool to just these things, by rising places.
func holds[T comparable](t *testing.T, p *arena.Pool[T], want ...laid[T]) {
	t.Helper()
	if got := things(t, p); !slices.Equal(got, want) || p.Len() != len(want) {
		t.Fatalf("the pool has %d things, %v; wanted %v", p.Len(), got, want)
	}
}

// off are handles that are off from one: the Gen one less, one more, and far off, and the place below 0 and at and beyond the room.
func off(h api.Handle, room int) []api.Handle {
	var out []api.Handle
	for _, gen := range []int{h.Gen - 1, h.Gen + 1, h.Gen - 2, h.Gen + 2, -h.Gen - 1, h.Gen + 1000, h.Gen + 256, h.Gen + 1<<16, h.Gen + 1<<32, h.Gen - 1<<32, math.MaxInt, math.MaxInt - 1, math.MinInt, math.MinInt + 1} {
		out = append(out, at(h.Index, gen))
	}
	for _, index := range []int{-1, -2, -room, -room - 1, h.Index - room, h.Index + room, room, room + 1, 2 * room, most, most + 1, h.Index + most, h.Index + 1<<16, h.Index + 1<<32, h.Index - 1<<32, math.MaxInt, math.MaxInt - 1, math.MinInt, math.MinInt + 1} {
		if index >= 0 && index < room {
			continue
		}
		for _, gen := range []int{h.Gen, 0, 1, -1, math.MaxInt, math.MinInt} {
			out = append(out, at(index, gen))
		}
	}
	return out
}

// TestExamples holds P5.1 and P5.2 to the chapter's examples.
func TestExamples(t *testing.T) {
	p := made[string](t, 2)
	put(t, p, "a", at(0, 0))
	put(t, p, "b", at(1, 0))
	full(t, p, "c")
	free(t, p, at(0, 0), "a")
	put(t, p, "c", at(0, 1))
	nothing(t, p, at(0, 0), "d")
	holds(t, p, laid[string]{at(0, 1), "c"}, laid[string]{at(1, 0), "b"})
}

// TestRooms holds P5.1 and P1: a room that may be, with just so many places, from one to the most.
func TestRooms(t *testing.T) {
	for _, room := range []int{1, 2, 3, 7, 64, 255, 256, 1000, most - 1, most} {
		p := made[int](t, room)
		holds(t, p)
		var want []laid[int]
		for i := range room {
			put(t, p, i+1, at(i, 0))
			want = append(want, laid[int]{at(i, 0), i + 1})
		}
		full(t, p, -1)
		full(t, p, -2)
		holds(t, p, want...)
	}
}

// TestNoRooms holds P5.1, R1 and P1: a room that may not be, of things of several types.
func TestNoRooms(t *testing.T) {
	for _, room := range []int{0, -1, -2, -most, most + 1, most + 2, 2 * most, 1 << 16, 1<<16 + 1, -1<<32 + 1, 1 << 32, 1<<32 + 1, math.MaxInt - 1, math.MaxInt, math.MinInt, math.MinInt + 1} {
		if p, e := arena.New[int](room); p != nil || e != api.ErrArg {
			t.Errorf("New[int](%d): %v, %d", room, p, e)
		}
		if p, e := arena.New[[]string](room); p != nil || e != api.ErrArg {
			t.Errorf("New[[]string](%d): %v, %d", room, p, e)
		}
		if p, e := arena.New[any](room); p != nil || e != api.ErrArg {
			t.Errorf("New[any](%d): %v, %d", room, p, e)
		}
	}
}

// TestNeverUsed holds P5.2 of a pool that nothing was ever laid into.
func TestNeverUsed(t *testing.T) {
	for _, room := range []int{1, 2, most} {
		p := made[int](t, room)
		for _, i := range []int{0, room / 2, room - 1} {
			nothing(t, p, at(i, 0), 5)
			for _, h := range off(at(i, 0), room) {
				nothing(t, p, h, 5)
			}
		}
		holds(t, p)
		put(t, p, 7, at(0, 0))
		holds(t, p, laid[int]{at(0, 0), 7})
	}
}

// TestEmptied holds P5.1 and P5.2 of a pool that was full and has nothing any more: its places come back, the last one freed first, with the next Gen.
func TestEmptied(t *testing.T) {
	for _, room := range []int{1, 2, 5, 64, most} {
		p := made[int](t, room)
		order := make([]int, room)
		for i := range room {
			order[i] = i
			put(t, p, 10*i, at(i, 0))
		}
		for gen := range 4 {
			full(t, p, -1)
			// Now from the first place on, now from the last.
			for _, i := range order {
				free(t, p, at(i, gen), 10*i+gen)
			}
			holds(t, p)
			for _, i := range []int{0, room / 2, room - 1} {
				nothing(t, p, at(i, gen), 5)
				nothing(t, p, at(i, gen+1), 5)
			}
			slices.Reverse(order)
			for _, i := range order {
				put(t, p, 10*i+gen+1, at(i, gen+1))
			}
		}
	}
}

// TestComeBack holds P5.1: places that were freed in one order come back in the other, and those that were never freed behind them.
func TestComeBack(t *testing.T) {
	p := made[string](t, 7)
	for i, x := range []string{"a", "b", "c", "d", "e"} {
		put(t, p, x, at(i, 0))
	}
	free(t, p, at(2, 0), "c")
	free(t, p, at(0, 0), "a")
	free(t, p, at(3, 0), "d")
	put(t, p, "f", at(3, 1))
	put(t, p, "g", at(0, 1))
	free(t, p, at(4, 0), "e")
	free(t, p, at(3, 1), "f")
	put(t, p, "h", at(3, 2))
	put(t, p, "i", at(4, 1))
	put(t, p, "j", at(2, 1))
	put(t, p, "k", at(5, 0))
	free(t, p, at(1, 0), "b")
	put(t, p, "l", at(1, 1))
	put(t, p, "m", at(6, 0))
	full(t, p, "n")
	free(t, p, at(6, 0), "m")
	put(t, p, "o", at(6, 1))
	full(t, p, "p")
	holds(t, p, laid[string]{at(0, 1), "g"}, laid[string]{at(1, 1), "l"}, laid[string]{at(2, 1), "j"}, laid[string]{at(3, 2), "h"},
		laid[string]{at(4, 1), "i"}, laid[string]{at(5, 0), "k"}, laid[string]{at(6, 1), "o"})
}

// TestFreedAheadOfNew holds P5.1's last words: while a place that was freed is empty, none that never was is taken.
func TestFreedAheadOfNew(t *testing.T) {
	p := made[int](t, most)
	// More often than a count of 16 bits holds.
	const often = 70000
	for i := range often {
		put(t, p, i, at(0, i))
		free(t, p, at(0, i), i)
	}
	put(t, p, 1, at(0, often))
	nothing(t, p, at(0, often-1<<16), 5)
	put(t, p, 2, at(1, 0))
	free(t, p, at(0, often), 1)
	put(t, p, 3, at(0, often+1))
	put(t, p, 4, at(2, 0))
}

// TestNamesNothing holds P5.2, R1 and P1 at handles that are off by their place or by their Gen, in a pool that is full, half full, and empty.
func TestNamesNothing(t *testing.T) {
	for _, room := range []int{1, 2, 3, 9, most} {
		p := made[int](t, room)
		for i := range room {
			put(t, p, i+1, at(i, 0))
		}
		for _, i := range []int{0, room / 2, room - 1} {
			for _, h := range off(at(i, 0), room) {
				nothing(t, p, h, -5)
			}
		}
		last := room - 1
		free(t, p, at(last, 0), last+1)
		for _, h := range append(off(at(last, 0), room), at(last, 0)) {
			nothing(t, p, h, -5)
		}
		put(t, p, 77, at(last, 1))
		for _, h := range off(at(last, 1), room) {
			nothing(t, p, h, -5)
		}
		named(t, p, at(last, 1), 77)
	}
}

// TestFreedAgain holds P5.2 and P5.3: what is freed is gone; freed again it is ErrHandle, and the place comes back but once.
func TestFreedAgain(t *testing.T) {
	p := made[int](t, 3)
	put(t, p, 10, at(0, 0))
	put(t, p, 20, at(1, 0))
	free(t, p, at(0, 0), 10)
	for range 3 {
		nothing(t, p, at(0, 0), 5)
	}
	put(t, p, 30, at(0, 1))
	nothing(t, p, at(0, 0), 5)
	put(t, p, 40, at(2, 0))
	full(t, p, 50)
	holds(t, p, laid[int]{at(0, 1), 30}, laid[int]{at(1, 0), 20}, laid[int]{at(2, 0), 40})
}

// TestNextGen holds P5.2: a place that is free has nothing, by the Gen that it will have next neither, and what comes there then is what was put.
func TestNextGen(t *testing.T) {
	p := made[int](t, 2)
	nothing(t, p, at(0, 0), 5)
	for gen := range 50 {
		put(t, p, 100+gen, at(0, gen))
		nothing(t, p, at(0, gen+1), 5)
		free(t, p, at(0, gen), 100+gen)
		nothing(t, p, at(0, gen+1), 5)
		nothing(t, p, at(0, gen), 5)
		nothing(t, p, at(1, 0), 5)
	}
	put(t, p, 7, at(0, 50))
	holds(t, p, laid[int]{at(0, 50), 7})
}

// TestSet holds P5.2 and P5.3: Set lays another thing under the same handle, again and again, and leaves all others.
func TestSet(t *testing.T) {
	p := made[string](t, 3)
	put(t, p, "a", at(0, 0))
	put(t, p, "b", at(1, 0))
	put(t, p, "c", at(2, 0))
	for _, x := range []string{"d", "", "e", "e"} {
		if e := p.Set(at(1, 0), x); e != api.OK {
			t.Fatalf("Set(%q): %d", x, e)
		}
		holds(t, p, laid[string]{at(0, 0), "a"}, laid[string]{at(1, 0), x}, laid[string]{at(2, 0), "c"})
	}
	free(t, p, at(1, 0), "e")
	nothing(t, p, at(1, 0), "f")
	put(t, p, "g", at(1, 1))
	if e := p.Set(at(1, 1), "h"); e != api.OK {
		t.Fatalf("Set: %d", e)
	}
	nothing(t, p, at(1, 0), "f")
	holds(t, p, laid[string]{at(0, 0), "a"}, laid[string]{at(1, 1), "h"}, laid[string]{at(2, 0), "c"})
}

// TestZeroThings holds P5.2: a thing that is the zero value is a thing as well as others.
func TestZeroThings(t *testing.T) {
	p := made[int](t, 2)
	put(t, p, 0, at(0, 0))
	put(t, p, 0, at(1, 0))
	full(t, p, 0)
	holds(t, p, laid[int]{at(0, 0), 0}, laid[int]{at(1, 0), 0})
	free(t, p, at(0, 0), 0)
	nothing(t, p, at(0, 0), 5)
	holds(t, p, laid[int]{at(1, 0), 0})
}

// goesRound holds P5.1 and P5.2 with things of one type, told apart as that type needs it.
func goesRound[T any](t *testing.T, a, b, c T, same func(x, y T) bool) {
	t.Helper()
	p := made[T](t, 2)
	var none T
	is := func(h api.Handle, want T) {
		t.Helper()
		if x, e := p.Get(h); e != api.OK || !same(x, want) {
			t.Errorf("Get(%v): %v, %d; wanted %v", h, x, e, want)
		}
	}
	gone := func(h api.Handle) {
		t.Helper()
		if x, e := p.Get(h); e != api.ErrHandle || !same(x, none) {
			t.Errorf("Get(%v), which names nothing: %v, %d", h, x, e)
		}
		if x, e := p.Free(h); e != api.ErrHandle || !same(x, none) {
			t.Errorf("Free(%v), which names nothing: %v, %d", h, x, e)
		}
		if e := p.Set(h, c); e != api.ErrHandle {
			t.Errorf("Set(%v), which names nothing: %d", h, e)
		}
	}
	put(t, p, a, at(0, 0))
	put(t, p, b, at(1, 0))
	full(t, p, c)
	is(at(0, 0), a)
	is(at(1, 0), b)
	if x, e := p.Free(at(0, 0)); e != api.OK || !same(x, a) {
		t.Errorf("Free: %v, %d; wanted %v", x, e, a)
	}
	gone(at(0, 0))
	gone(at(0, 1))
	put(t, p, c, at(0, 1))
	gone(at(0, 0))
	is(at(0, 1), c)
	if e := p.Set(at(0, 1), a); e != api.OK {
		t.Errorf("Set: %d", e)
	}
	is(at(0, 1), a)
	is(at(1, 0), b)
	if got := p.All(); p.Len() != 2 || !slices.Equal(got, []api.Handle{at(0, 1), at(1, 0)}) {
		t.Errorf("All: %v, Len: %d", got, p.Len())
	}
}

func equal[T comparable](x, y T) bool { return x == y }

// TestTypes holds P5.1 and P5.2 with things of several types.
func TestTypes(t *testing.T) {
	type pair struct {
		n int
		s string
	}
	goesRound(t, 1, 2, 3, equal)
	goesRound(t, uint8(255), 0, 7, equal)
	goesRound(t, true, false, true, equal)
	goesRound(t, 0.5, math.Inf(1), -1, equal)
	goesRound(t, "a", "", "c", equal)
	goesRound(t, pair{1, "a"}, pair{}, pair{3, "c"}, equal)
	goesRound(t, [3]int{1, 2, 3}, [3]int{}, [3]int{7}, equal)
	goesRound(t, struct{}{}, struct{}{}, struct{}{}, equal)
	goesRound(t, at(5, 6), at(0, 0), at(-1, -1), equal)
	goesRound(t, &pair{1, "a"}, &pair{1, "a"}, nil, equal)
	goesRound[any](t, 1, "b", nil, equal)
	goesRound[error](t, errors.New("a"), nil, errors.New("a"), equal)
	goesRound(t, []int{1, 2}, nil, []int{3}, slices.Equal)
	goesRound(t, map[int]int{1: 2}, nil, map[int]int{3: 4}, func(x, y map[int]int) bool {
		return len(x) == len(y) && x[1] == y[1] && x[3] == y[3]
	})
	goesRound(t, func() int { return 1 }, func() int { return 2 }, nil, func(x, y func() int) bool {
		if x == nil || y == nil {
			return x == nil && y == nil
		}
		return x() == y()
	})
	goesRound(t, made[int](t, 1), made[int](t, 1), nil, equal)
	goesRound(t, make(chan int), make(chan int), nil, equal)
}

// TestAllIsTheCallers holds R3: what All tells may be changed by the caller, and what was told stays as it is when the pool changes.
func TestAllIsTheCallers(t *testing.T) {
	p := made[int](t, 4)
	for i := range 3 {
		put(t, p, i, at(i, 0))
	}
	want := []laid[int]{{at(0, 0), 0}, {at(1, 0), 1}, {at(2, 0), 2}}
	first, second := p.All(), p.All()
	for i := range first {
		first[i] = at(-1, 99)
	}
	_ = append(first[:0], at(9, 9), at(9, 9), at(9, 9), at(9, 9))
	kept := []api.Handle{at(0, 0), at(1, 0), at(2, 0)}
	if !slices.Equal(second, kept) {
		t.Errorf("two answers of All share memory: %v", second)
	}
	holds(t, p, want...)
	free(t, p, at(1, 0), 1)
	put(t, p, 5, at(1, 1))
	put(t, p, 6, at(3, 0))
	p.All()
	if !slices.Equal(second, kept) {
		t.Errorf("what All told has changed with the pool: %v", second)
	}
	holds(t, p, laid[int]{at(0, 0), 0}, laid[int]{at(1, 1), 5}, laid[int]{at(2, 0), 2}, laid[int]{at(3, 0), 6})
}

// TestValuesAreCopied holds R3 and P5.3 of things that are values: what the caller changes of what was laid or told changes nothing in the pool.
func TestValuesAreCopied(t *testing.T) {
	p := made[[2]int](t, 1)
	x := [2]int{1, 2}
	put(t, p, x, at(0, 0))
	x[0] = 9
	told, _ := p.Get(at(0, 0))
	told[1] = 9
	named(t, p, at(0, 0), [2]int{1, 2})
	p.Set(at(0, 0), x)
	x[1] = 8
	named(t, p, at(0, 0), [2]int{9, 2})
}

// TestNilPool holds P5.2's last words, R1 and P1: of a pool that is nil, at handles of all kinds.
func TestNilPool(t *testing.T) {
	var p *arena.Pool[int]
	var q *arena.Pool[[]int]
	for range 2 {
		full(t, p, 5)
		full(t, q, []int{5})
		for _, h := range append(off(at(0, 0), 1), at(0, 0), at(0, 1), at(1, 0), at(7, 7)) {
			nothing(t, p, h, 5)
			if x, e := q.Get(h); x != nil || e != api.ErrHandle {
				t.Errorf("Get(%v) of nil: %v, %d", h, x, e)
			}
			if x, e := q.Free(h); x != nil || e != api.ErrHandle {
				t.Errorf("Free(%v) of nil: %v, %d", h, x, e)
			}
			if e := q.Set(h, []int{5}); e != api.ErrHandle {
				t.Errorf("Set(%v) of nil: %d", h, e)
			}
		}
		holds(t, p)
		if q.Len() != 0 || len(q.All()) != 0 {
			t.Errorf("nil has %d things, %v", q.Len(), q.All())
		}
	}
}

// TestZeroPool holds P1: R5 asks a zero pool nothing, so that any answer will do, but a panic would not.
func TestZeroPool(t *testing.T) {
	var p arena.Pool[int]
	for _, h := range append(off(at(0, 0), 1), at(0, 0)) {
		p.Put(5)
		p.Get(h)
		p.Set(h, 5)
		p.Free(h)
		p.Len()
		p.All()
	}
}

// TestPoolsApart holds R4: pools of one type and of one room share nothing.
func TestPoolsApart(t *testing.T) {
	p, q := made[int](t, 2), made[int](t, 2)
	put(t, p, 1, at(0, 0))
	put(t, p, 2, at(1, 0))
	nothing(t, q, at(0, 0), 5)
	put(t, q, 3, at(0, 0))
	free(t, p, at(0, 0), 1)
	named(t, q, at(0, 0), 3)
	put(t, q, 4, at(1, 0))
	full(t, q, 5)
	put(t, p, 6, at(0, 1))
	holds(t, p, laid[int]{at(0, 1), 6}, laid[int]{at(1, 0), 2})
	holds(t, q, laid[int]{at(0, 0), 3}, laid[int]{at(1, 0), 4})
}

// collected tells whether what a weak pointer saw is kept by nobody any more.
func collected(w weak.Pointer[[64]byte]) bool {
	for range 10 {
		runtime.GC()
		if w.Value() == nil {
			return true
		}
	}
	return false
}

// layNew lays a new thing there without a trace of it in its caller.
func layNew(lay func(x *[64]byte)) weak.Pointer[[64]byte] {
	x := new([64]byte)
	lay(x)
	return weak.Make(x)
}

// TestGoneIsGone holds P5.2's "which is gone then": the pool keeps nothing of a thing that was freed, or that another one took the place of.
func TestGoneIsGone(t *testing.T) {
	p := made[*[64]byte](t, 3)
	freed := layNew(func(x *[64]byte) { p.Put(x) })
	other := layNew(func(x *[64]byte) { p.Put(x) })
	kept := layNew(func(x *[64]byte) { p.Put(x) })
	p.Free(at(0, 0))
	p.Set(at(1, 0), nil)
	if !collected(freed) {
		t.Error("what was freed is kept")
	}
	if !collected(other) {
		t.Error("what another thing took the place of is kept")
	}
	if kept.Value() == nil {
		t.Error("what is in the pool was let go")
	}
	runtime.KeepAlive(p)
}

// model is a pool by the chapter's words alone: it looks through everything that ever happened each time.
type model struct {
	room   int
	now    map[int]bool        // places with a thing
	frees  []int               // places, in the order in which they were freed
	told   []api.Handle        // all that Put told
	things map[api.Handle]int  // what each of those names, or named
	dead   map[api.Handle]bool // those that were freed
}

func newModel(room int) *model {
	return &model{room: room, now: map[int]bool{}, things: map[api.Handle]int{}, dead: map[api.Handle]bool{}}
}

// gen is how often a place was freed.
func (m *model) gen(i int) int {
	n := 0
	for _, f := range m.frees {
		if f == i {
			n++
		}
	}
	return n
}

// place is the one for the next thing: the one that was freed last of all that nothing is in, or else the first.
func (m *model) place() (int, bool) {
	for k := len(m.frees) - 1; k >= 0; k-- {
		if !m.now[m.frees[k]] {
			return m.frees[k], true
		}
	}
	for i := range m.room {
		if !m.now[i] {
			return i, true
		}
	}
	return 0, false
}

func (m *model) put(x int) (api.Handle, api.Errno) {
	i, ok := m.place()
	if !ok {
		return api.Handle{}, api.ErrFull
	}
	h := at(i, m.gen(i))
	m.now[i] = true
	m.told = append(m.told, h)
	m.things[h] = x
	return h, api.OK
}

func (m *model) get(h api.Handle) (int, api.Errno) {
	x, told := m.things[h]
	if !told || m.dead[h] {
		return 0, api.ErrHandle
	}
	return x, api.OK
}

func (m *model) set(h api.Handle, x int) api.Errno {
	_, e := m.get(h)
	if e == api.OK {
		m.things[h] = x
	}
	return e
}

func (m *model) free(h api.Handle) (int, api.Errno) {
	x, e := m.get(h)
	if e == api.OK {
		m.dead[h] = true
		m.now[h.Index] = false
		m.frees = append(m.frees, h.Index)
	}
	return x, e
}

func (m *model) all() []api.Handle {
	var out []api.Handle
	for _, h := range m.told {
		if !m.dead[h] {
			out = append(out, h)
		}
	}
	slices.SortFunc(out, func(a, b api.Handle) int { return a.Index - b.Index })
	return out
}

// both is a pool beside its model, which are asked the same.
type both struct {
	t *testing.T
	p *arena.Pool[int]
	m *model
}

func newBoth(t *testing.T, room int) *both {
	return &both{t, made[int](t, room), newModel(room)}
}

func (b *both) put(x int) {
	b.t.Helper()
	seen := len(b.m.things)
	want, wantE := b.m.put(x)
	got, e := b.p.Put(x)
	if got != want || e != wantE {
		b.t.Fatalf("Put: %v, %d; wanted %v, %d", got, e, want, wantE)
	}
	if e == api.OK && len(b.m.things) != seen+1 {
		b.t.Fatalf("Put told %v twice", got)
	}
}

func (b *both) set(h api.Handle, x int) {
	b.t.Helper()
	want := b.m.set(h, x)
	if e := b.p.Set(h, x); e != want {
		b.t.Fatalf("Set(%v): %d; wanted %d", h, e, want)
	}
}

func (b *both) free(h api.Handle) {
	b.t.Helper()
	want, wantE := b.m.free(h)
	if x, e := b.p.Free(h); x != want || e != wantE {
		b.t.Fatalf("Free(%v): %d, %d; wanted %d, %d", h, x, e, want, wantE)
	}
}

func (b *both) get(h api.Handle) {
	b.t.Helper()
	want, wantE := b.m.get(h)
	if x, e := b.p.Get(h); x != want || e != wantE {
		b.t.Fatalf("Get(%v): %d, %d; wanted %d, %d", h, x, e, want, wantE)
	}
}

// whole holds all that was ever told, and all that All tells, to the model: P5.3.
func (b *both) whole() {
	b.t.Helper()
	for _, h := range b.m.told {
		b.get(h)
	}
	want := b.m.all()
	if got := b.p.All(); !slices.Equal(got, want) || b.p.Len() != len(want) {
		b.t.Fatalf("All: %v, Len: %d; wanted %v", got, b.p.Len(), want)
	}
}

// step is the next one of numbers without a pattern, the same ones each time.
func step(x uint64) uint64 {
	x ^= x << 13
	x ^= x >> 7
	return x ^ x<<17
}

// TestAllWays holds P5.1 to P5.3 in each order of a few calls: put, and set and free of each handle of a place or two with each Gen that it may have by then.
func TestAllWays(t *testing.T) {
	type call struct {
		what string
		h    api.Handle
	}
	calls := []call{{what: "put"}}
	for i := range 3 {
		for gen := range 2 {
			calls = append(calls, call{"free", at(i, gen)})
		}
	}
	calls = append(calls, call{"set", at(0, 0)}, call{"set", at(1, 1)})
	const long = 5
	for room := 1; room <= 3; room++ {
		count := 1
		for range long {
			count *= len(calls)
		}
		for n := range count {
			b := newBoth(t, room)
			// Two things ahead, so that five calls come far.
			b.put(-1)
			b.put(-2)
			for k, rest := 0, n; k < long; k, rest = k+1, rest/len(calls) {
				c := calls[rest%len(calls)]
				switch c.what {
				case "put":
					b.put(100 + k)
				case "free":
					b.free(c.h)
				case "set":
					b.set(c.h, 200+k)
				}
			}
			b.whole()
		}
	}
}

// TestLongWays holds P5.1 to P5.3 along ways without a pattern, with handles that live, that are gone, and that are off, in rooms of several sizes.
func TestLongWays(t *testing.T) {
	for _, room := range []int{1, 2, 3, 5, 16, 40} {
		for seed := range 12 {
			b := newBoth(t, room)
			x := uint64(room*1000+seed) + 88172645463325252
			for k := range 400 {
				x = step(x)
				h := some(b, x>>40)
				// Times of growth and of waning, so that the pool is now full, now empty.
				grows := k/60%2 == 0
				switch pick := x >> 20 % 10; {
				case pick < 5 && grows || pick < 2:
					b.put(k + 1)
				case pick < 7:
					b.free(h)
				case pick < 8:
					b.set(h, -k)
				default:
					b.get(h)
				}
				b.whole()
			}
		}
	}
}

// some is a handle that was told once, or one beside it.
func some(b *both, n uint64) api.Handle {
	if len(b.m.told) == 0 {
		return at(0, 0)
	}
	live := b.m.all()
	h := b.m.told[n%uint64(len(b.m.told))]
	switch n >> 12 % 8 {
	case 0:
		return h
	case 1:
		return at(h.Index, h.Gen+1)
	case 2:
		return at(h.Index+1, h.Gen)
	case 3:
		return at(h.Index-1, h.Gen-1)
	}
	if len(live) > 0 {
		return live[n%uint64(len(live))]
	}
	return h
}

// TestMostPlaces holds P5.1 to P5.3 in a pool of the most places: freed in an order without a pattern, they come back in the other, and no handle is told twice.
func TestMostPlaces(t *testing.T) {
	p := made[int](t, most)
	seen := map[api.Handle]int{}
	lay := func(x int, want api.Handle) {
		put(t, p, x, want)
		if _, again := seen[want]; again {
			t.Fatalf("%v was told twice", want)
		}
		seen[want] = x
	}
	for i := range most {
		lay(i, at(i, 0))
	}
	x := uint64(88172645463325252)
	order := make([]int, most)
	for i := range order {
		order[i] = i
	}
	for i := most - 1; i > 0; i-- {
		x = step(x)
		k := int(x >> 20 % uint64(i+1))
		order[i], order[k] = order[k], order[i]
	}
	part := order[:3000]
	for _, i := range part {
		free(t, p, at(i, 0), i)
	}
	for k := len(part) - 1; k >= 0; k-- {
		lay(most+k, at(part[k], 1))
	}
	full(t, p, 5)
	for h, x := range seen {
		if h.Gen == 0 && slices.Contains(part, h.Index) {
			if got, e := p.Get(h); got != 0 || e != api.ErrHandle {
				t.Fatalf("Get(%v), which is gone: %d, %d", h, got, e)
			}
			continue
		}
		named(t, p, h, x)
	}
	if all := p.All(); len(all) != most || !slices.IsSortedFunc(all, func(a, b api.Handle) int { return a.Index - b.Index }) {
		t.Errorf("All of %d: %d, or not by rising places", most, len(all))
	}
}

// TestSameAgain holds R4: the same calls have the same answers, whatever other pools were asked ahead.
func TestSameAgain(t *testing.T) {
	ask := func() []laid[int] {
		p := made[int](t, 5)
		var out []laid[int]
		x := uint64(12345)
		for k := range 300 {
			x = step(x)
			if x>>20%3 != 0 {
				h, e := p.Put(k)
				out = append(out, laid[int]{h, int(e)})
				continue
			}
			if all := p.All(); len(all) > 0 {
				h := all[x>>30%uint64(len(all))]
				was, _ := p.Free(h)
				out = append(out, laid[int]{h, was})
			}
		}
		return append(out, things(t, p)...)
	}
	first := ask()
	if !slices.Equal(first, ask()) {
		t.Error("the same calls have other answers the second time")
	}
}
