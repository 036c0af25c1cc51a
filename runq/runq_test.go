package runq_test

import (
	"math"
	"slices"
	"testing"

	"dole/api"
	"dole/runq"
)

const (
	least    = math.MinInt64
	greatest = math.MaxInt64
	full     = 128     // so many entities there may be, by the chapter's words
	top      = 1 << 40 // the greatest gran, likewise
)

func ent(id int, w uint64, v int64, rem uint64) api.Ent {
	return api.Ent{Id: id, Weight: w, V: v, Rem: rem}
}

// unit is one of the weight 1024, with nothing left over.
func unit(id int, v int64) api.Ent { return ent(id, 1024, v, 0) }

// view is all that a queue tells of itself.
type view struct {
	current int
	min     int64
	load    uint64
	flag    bool
	ents    []api.Ent
}

func look(q *runq.Queue) view { return view{q.Current(), q.Min(), q.Load(), q.Flag(), q.Ents()} }

func (v view) is(other view) bool {
	return v.current == other.current && v.min == other.min && v.load == other.load && v.flag == other.flag && slices.Equal(v.ents, other.ents)
}

func holds(t *testing.T, what string, q *runq.Queue, want view) {
	t.Helper()
	if got := look(q); !got.is(want) {
		t.Fatalf("%s: %v; wanted %v", what, got, want)
	}
}

// queue has these, and none of them is the current one.
func queue(t *testing.T, ents ...api.Ent) *runq.Queue {
	t.Helper()
	q := runq.New()
	for _, e := range ents {
		errno(t, "Put", q.Put(e), api.OK)
	}
	return q
}

// served is such a queue, of which the one with that Id is the current one: it is put and picked ahead of all others.
func served(t *testing.T, id int, ents ...api.Ent) *runq.Queue {
	t.Helper()
	q := runq.New()
	for _, e := range ents {
		if e.Id == id {
			errno(t, "Put", q.Put(e), api.OK)
			number(t, "Pick", q.Pick(0), id)
		}
	}
	for _, e := range ents {
		if e.Id != id {
			errno(t, "Put", q.Put(e), api.OK)
		}
	}
	return q
}

func errno(t *testing.T, what string, got, want api.Errno) {
	t.Helper()
	if got != want {
		t.Fatalf("%s: %d; wanted %d", what, got, want)
	}
}

func number(t *testing.T, what string, got, want int) {
	t.Helper()
	if got != want {
		t.Fatalf("%s: %d; wanted %d", what, got, want)
	}
}

func dropped(t *testing.T, q *runq.Queue, id int, want api.Ent, err api.Errno) {
	t.Helper()
	e, got := q.Drop(id)
	errno(t, "Drop", got, err)
	if e != want {
		t.Fatalf("Drop(%d): %v; wanted %v", id, e, want)
	}
}

// TestExamples holds P8.1 to P8.4 to the chapter's examples.
func TestExamples(t *testing.T) {
	begin := func() *runq.Queue {
		q := queue(t, unit(1, 0), unit(2, 0))
		number(t, "Pick(0)", q.Pick(0), 1)
		errno(t, "Charge(5)", q.Charge(5), api.OK)
		holds(t, "Charge(5)", q, view{1, 0, 2048, false, []api.Ent{unit(2, 0), unit(1, 5)}})
		return q
	}
	number(t, "Pick(0)", begin().Pick(0), 2)
	number(t, "Pick(5)", begin().Pick(5), 1)
}

// TestNew holds P8.3 and P8.4 of a queue that is new: none is there, none is current, Min is 0, the flag is not set.
func TestNew(t *testing.T) {
	q := runq.New()
	if q == nil {
		t.Fatal("New: nil")
	}
	empty := view{-1, 0, 0, false, nil}
	holds(t, "New", q, empty)
	for _, gran := range []int64{least, -1, 0, 1, top, greatest} {
		number(t, "Pick", q.Pick(gran), -1)
		number(t, "Yield", q.Yield(gran), -1)
	}
	errno(t, "Charge(0)", q.Charge(0), api.ErrState)
	for _, id := range []int{math.MinInt, -1, 0, 1, math.MaxInt} {
		dropped(t, q, id, api.Ent{}, api.ErrNone)
		errno(t, "Weigh", q.Weigh(id, 1024), api.ErrNone)
	}
	holds(t, "nothing done", q, empty)
}

// TestNil holds P8.4's last words and P1: every call of a queue that is nil, with what may be and what may not.
func TestNil(t *testing.T) {
	var q *runq.Queue
	for _, e := range []api.Ent{{}, unit(1, 0), unit(-1, 0), ent(1, 1, 0, 0), ent(1, 1024, 0, 1024)} {
		errno(t, "Put", q.Put(e), api.ErrNone)
	}
	for _, id := range []int{math.MinInt, -1, 0, 1, math.MaxInt} {
		dropped(t, q, id, api.Ent{}, api.ErrNone)
		for _, w := range []uint64{0, 1, 1024, math.MaxUint64} {
			errno(t, "Weigh", q.Weigh(id, w), api.ErrNone)
		}
	}
	for _, ns := range []uint64{0, 1, 1000000000, 1000000001, math.MaxUint64} {
		errno(t, "Charge", q.Charge(ns), api.ErrNone)
	}
	for _, gran := range []int64{least, -1, 0, 1, top, greatest} {
		number(t, "Pick", q.Pick(gran), -1)
		number(t, "Yield", q.Yield(gran), -1)
	}
	holds(t, "nil", q, view{-1, 0, 0, false, nil})
}

// TestZero holds P1: R5 asks a zero queue nothing, so that any answer will do, but a panic would not.
func TestZero(t *testing.T) {
	var q runq.Queue
	q.Put(unit(1, 0))
	q.Pick(0)
	q.Yield(0)
	q.Charge(1)
	q.Weigh(1, 1024)
	q.Drop(1)
	look(&q)
}

// TestPutNamed holds P8.1 of Put at an Id, a weight and what is left over around where they may not be any more.
func TestPutNamed(t *testing.T) {
	for _, row := range []struct {
		e    api.Ent
		want api.Errno
	}{
		{unit(math.MinInt, 0), api.ErrArg}, {unit(-2, 0), api.ErrArg}, {unit(-1, 0), api.ErrArg},
		{unit(0, 0), api.OK}, {unit(1, 0), api.OK}, {unit(math.MaxInt-1, 0), api.OK}, {unit(math.MaxInt, 0), api.OK},
		{ent(1, 0, 0, 0), api.ErrWeight}, {ent(1, 1, 0, 0), api.ErrWeight}, {ent(1, 2, 0, 0), api.OK}, {ent(1, 3, 0, 0), api.OK},
		{ent(1, 262143, 0, 0), api.OK}, {ent(1, 262144, 0, 0), api.OK}, {ent(1, 262145, 0, 0), api.ErrWeight},
		{ent(1, 1<<32+1024, 0, 0), api.ErrWeight}, {ent(1, 1<<63, 0, 0), api.ErrWeight}, {ent(1, math.MaxUint64, 0, 0), api.ErrWeight},
		{ent(1, 1024, 0, 1), api.OK}, {ent(1, 1024, 0, 1023), api.OK}, {ent(1, 1024, 0, 1024), api.ErrArg}, {ent(1, 1024, 0, 1025), api.ErrArg},
		{ent(1, 2, 0, 1), api.OK}, {ent(1, 2, 0, 2), api.ErrArg}, {ent(1, 2, 0, 3), api.ErrArg},
		{ent(1, 262144, 0, 262143), api.OK}, {ent(1, 262144, 0, 262144), api.ErrArg}, {ent(1, 262144, 0, 262145), api.ErrArg},
		{ent(1, 1024, 0, 1<<32), api.ErrArg}, {ent(1, 1024, 0, 1<<63), api.ErrArg}, {ent(1, 1024, 0, math.MaxUint64), api.ErrArg},
		{unit(1, least), api.OK}, {unit(1, -1), api.OK}, {unit(1, 1), api.OK}, {unit(1, greatest), api.OK},
		{ent(math.MaxInt, 262144, greatest, 262143), api.OK}, {ent(0, 2, least, 1), api.OK},
	} {
		q := runq.New()
		errno(t, "Put", q.Put(row.e), row.want)
		if row.want != api.OK {
			holds(t, "Put with an error", q, view{-1, 0, 0, false, nil})
			continue
		}
		holds(t, "Put", q, view{-1, max(0, row.e.V), row.e.Weight, false, []api.Ent{row.e}})
		number(t, "Pick", q.Pick(0), row.e.Id)
		dropped(t, q, row.e.Id, row.e, api.OK)
	}
}

// filled has so many of the weight 2, with the Ids from 0 on, at V of the same number.
func filled(t *testing.T, count int) *runq.Queue {
	t.Helper()
	q := runq.New()
	for i := range count {
		errno(t, "Put", q.Put(ent(i, 2, int64(i), 0)), api.OK)
	}
	return q
}

// TestPutFirstNamed holds P8.1 and R1: where several errors apply, the one that is named first is answered. The Ids 5 and 200 are there in a queue that is full, and in one that has room.
func TestPutFirstNamed(t *testing.T) {
	all := filled(t, full-1)
	some := queue(t, unit(5, 0))
	for _, q := range []*runq.Queue{all, some} {
		errno(t, "Put", q.Put(unit(200, 7)), api.OK)
		ahead := look(q)
		for _, row := range []struct {
			e    api.Ent
			want api.Errno
		}{
			{ent(-1, 0, 0, 0), api.ErrArg}, {ent(-1, 1, 0, 1), api.ErrArg}, {ent(-5, 262145, 0, 300000), api.ErrArg}, {ent(-1, 1024, 0, 1024), api.ErrArg},
			{ent(200, 1, 0, 1), api.ErrWeight}, {ent(200, 0, 0, 0), api.ErrWeight}, {ent(300, 0, 0, 0), api.ErrWeight}, {ent(300, 262145, 0, 262145), api.ErrWeight}, {ent(300, 262145, 0, math.MaxUint64), api.ErrWeight},
			{ent(200, 1024, 0, 1024), api.ErrArg}, {ent(300, 1024, 0, 1024), api.ErrArg}, {ent(5, 2, 0, 2), api.ErrArg},
			{ent(200, 1024, 7, 0), api.ErrBusy}, {ent(5, 2, 5, 1), api.ErrBusy}, {ent(200, 3, -9, 2), api.ErrBusy},
		} {
			errno(t, "Put", q.Put(row.e), row.want)
			holds(t, "Put with an error", q, ahead)
		}
	}
	errno(t, "Put of one more", all.Put(unit(300, 0)), api.ErrFull)
	errno(t, "Put of one more", some.Put(unit(300, 0)), api.OK)
}

// TestBusy holds P8.1: an Id that is there may not be put again, as it is or otherwise; one that was dropped may, and is as it was put then.
func TestBusy(t *testing.T) {
	q := queue(t, ent(3, 100, 40, 50), unit(4, 50))
	ahead := look(q)
	for _, e := range []api.Ent{ent(3, 100, 40, 50), ent(3, 200, 40, 50), ent(3, 100, 41, 50), ent(3, 100, -40, 50), ent(3, 100, 40, 0), unit(4, 50), unit(4, 0)} {
		errno(t, "Put of what is there", q.Put(e), api.ErrBusy)
		holds(t, "Put of what is there", q, ahead)
	}
	dropped(t, q, 3, ent(3, 100, 40, 50), api.OK)
	dropped(t, q, 3, api.Ent{}, api.ErrNone)
	errno(t, "Put of what was dropped", q.Put(ent(3, 7, 60, 6)), api.OK)
	holds(t, "Put of what was dropped", q, view{-1, 50, 1031, false, []api.Ent{unit(4, 50), ent(3, 7, 60, 6)}})
	errno(t, "Put of it again", q.Put(ent(3, 7, 60, 6)), api.ErrBusy)
}

// TestBusyWhereItWent holds P8.1: one is there by its Id, wherever its V has come to.
func TestBusyWhereItWent(t *testing.T) {
	q := served(t, 1, unit(1, 0), unit(2, 3))
	errno(t, "Charge", q.Charge(7), api.OK)
	for _, v := range []int64{0, 3, 7} {
		errno(t, "Put", q.Put(unit(1, v)), api.ErrBusy)
	}
	holds(t, "charged", q, view{1, 3, 2048, false, []api.Ent{unit(2, 3), unit(1, 7)}})
	dropped(t, q, 1, unit(1, 7), api.OK)
	holds(t, "dropped", q, view{-1, 3, 1024, false, []api.Ent{unit(2, 3)}})
}

// TestFull holds P8.1: the 128th has room, the 129th none, till one is dropped, again and again.
func TestFull(t *testing.T) {
	q := filled(t, full-1)
	number(t, "entities", len(q.Ents()), full-1)
	errno(t, "the 128th", q.Put(ent(full-1, 262144, 500, 9)), api.OK)
	number(t, "entities", len(q.Ents()), full)
	for i := range 2 * full {
		ahead := look(q)
		errno(t, "the 129th", q.Put(unit(1000+i, 600)), api.ErrFull)
		holds(t, "the 129th", q, ahead)
		first := ahead.ents[0]
		dropped(t, q, first.Id, first, api.OK)
		errno(t, "one in its place", q.Put(unit(1000+i, 600+int64(i))), api.OK)
		number(t, "entities", len(q.Ents()), full)
	}
	if n := q.Load(); n != full*1024 {
		t.Errorf("Load: %d", n)
	}
}

// TestFullOfTheHeaviest holds P8.4 of Load where it is greatest.
func TestFullOfTheHeaviest(t *testing.T) {
	q := runq.New()
	for i := range full {
		errno(t, "Put", q.Put(ent(i, 262144, 0, 262143)), api.OK)
	}
	if n := q.Load(); n != 33554432 {
		t.Errorf("Load: %d", n)
	}
}

// TestOrder holds P8.4 and the chapter's order: by V, and of one V by Id, whatever came first.
func TestOrder(t *testing.T) {
	want := []api.Ent{unit(9, least), unit(0, -5), unit(8, -5), unit(3, 0), unit(4, 0), unit(5, 0), unit(7, 12), unit(1, greatest), unit(2, greatest)}
	for turn := range want {
		for _, back := range []bool{false, true} {
			l := append(slices.Clone(want[turn:]), want[:turn]...)
			if back {
				slices.Reverse(l)
			}
			q := queue(t, l...)
			if got := q.Ents(); !slices.Equal(got, want) {
				t.Fatalf("Ents: %v; wanted %v", got, want)
			}
			for _, e := range want {
				number(t, "Pick", q.Pick(0), e.Id)
				dropped(t, q, e.Id, e, api.OK)
			}
			holds(t, "all dropped", q, view{-1, greatest, 0, false, nil})
		}
	}
}

// TestDrop holds P8.1 of Drop: of one that isn't there, of another one, of the current one, of the last one, and of one behind that.
func TestDrop(t *testing.T) {
	q := served(t, 2, ent(1, 10, 4, 9), ent(2, 20, 5, 19), ent(3, 30, 6, 29))
	all := []api.Ent{ent(1, 10, 4, 9), ent(2, 20, 5, 19), ent(3, 30, 6, 29)}
	holds(t, "three", q, view{2, 5, 60, false, all})
	for _, id := range []int{math.MinInt, -1, 0, 4, math.MaxInt} {
		dropped(t, q, id, api.Ent{}, api.ErrNone)
		holds(t, "Drop of none", q, view{2, 5, 60, false, all})
	}
	dropped(t, q, 1, all[0], api.OK)
	holds(t, "Drop of another one", q, view{2, 5, 50, false, all[1:]})
	dropped(t, q, 2, all[1], api.OK)
	holds(t, "Drop of the current one", q, view{-1, 6, 30, false, all[2:]})
	errno(t, "Charge without one", q.Charge(1), api.ErrState)
	dropped(t, q, 3, all[2], api.OK)
	holds(t, "Drop of the last one", q, view{-1, 6, 0, false, nil})
	number(t, "Pick", q.Pick(0), -1)
	dropped(t, q, 3, api.Ent{}, api.ErrNone)
	holds(t, "Drop of none", q, view{-1, 6, 0, false, nil})
}

// TestComesBackNotCurrent holds P8.1: one that was current, was dropped and is put again is not the current one; another one may be, and stays.
func TestComesBackNotCurrent(t *testing.T) {
	q := served(t, 1, unit(1, 0), unit(2, 1))
	dropped(t, q, 1, unit(1, 0), api.OK)
	errno(t, "Put", q.Put(unit(1, 0)), api.OK)
	holds(t, "back", q, view{-1, 1, 2048, false, []api.Ent{unit(1, 0), unit(2, 1)}})
	errno(t, "Charge", q.Charge(1), api.ErrState)
	number(t, "Pick", q.Pick(0), 1)
	dropped(t, q, 1, unit(1, 0), api.OK)
	number(t, "Pick", q.Pick(0), 2)
	errno(t, "Put", q.Put(unit(1, 0)), api.OK)
	number(t, "Current", q.Current(), 2)
	number(t, "Pick within gran", q.Pick(1), 2)
	number(t, "Pick", q.Pick(0), 1)
}

// TestWeighNamed holds P8.1 of Weigh: the new weight, and what is left over in the new weight's parts, rounded down.
func TestWeighNamed(t *testing.T) {
	for _, row := range [][4]uint64{ // weight, Rem, new weight; new Rem
		{100, 50, 200, 100}, {100, 50, 50, 25}, {100, 50, 100, 50}, {100, 99, 200, 198}, {100, 99, 50, 49}, {100, 99, 3, 2}, {100, 99, 2, 1}, {100, 49, 2, 0}, {100, 50, 2, 1},
		{100, 0, 200, 0}, {100, 0, 2, 0}, {3, 1, 1024, 341}, {3, 2, 1024, 682}, {1024, 682, 3, 1}, {1024, 683, 3, 2}, {7, 3, 5, 2}, {7, 6, 5, 4},
		{2, 1, 262144, 131072}, {262144, 131072, 2, 1}, {262144, 131071, 2, 0}, {262144, 262143, 2, 1}, {262144, 262143, 262144, 262143}, {2, 1, 2, 1},
		{262143, 262142, 262144, 262142}, {262144, 262143, 262143, 262142}, {262144, 262143, 3, 2}, {3, 2, 262144, 174762},
	} {
		for _, current := range []bool{false, true} {
			q := queue(t, ent(6, row[0], 9, row[1]))
			at := -1
			if current {
				at = q.Pick(0)
			}
			errno(t, "Put", q.Put(ent(7, 11, 8, 10)), api.OK)
			errno(t, "Weigh", q.Weigh(6, row[2]), api.OK)
			holds(t, "Weigh", q, view{at, 9, row[2] + 11, false, []api.Ent{ent(7, 11, 8, 10), ent(6, row[2], 9, row[3])}})
		}
	}
}

// TestWeighErrors holds P8.1 and R1 of Weigh: who isn't there is told ahead of a weight that may not be, and nothing is changed.
func TestWeighErrors(t *testing.T) {
	q := served(t, 1, ent(1, 10, 4, 9), ent(2, 20, 5, 19))
	ahead := look(q)
	for _, w := range []uint64{0, 1, 262145, 1 << 32, 1<<32 + 1024, 1 << 63, math.MaxUint64} {
		for _, id := range []int{1, 2} {
			errno(t, "Weigh", q.Weigh(id, w), api.ErrWeight)
		}
		for _, id := range []int{math.MinInt, -1, 0, 3, math.MaxInt} {
			errno(t, "Weigh", q.Weigh(id, w), api.ErrNone)
		}
		holds(t, "Weigh with an error", q, ahead)
	}
	for _, w := range []uint64{2, 1024, 262144} {
		errno(t, "Weigh", q.Weigh(3, w), api.ErrNone)
		errno(t, "Weigh", q.Weigh(-1, w), api.ErrNone)
		holds(t, "Weigh with an error", q, ahead)
	}
	dropped(t, q, 2, ent(2, 20, 5, 19), api.OK)
	errno(t, "Weigh of what was dropped", q.Weigh(2, 1024), api.ErrNone)
}

// TestWeighGoesOn holds P8.1: the weight that was given, and what is left over in its parts, is what the next charge goes by, and what is dropped.
func TestWeighGoesOn(t *testing.T) {
	q := served(t, 1, ent(1, 1024, 0, 512))
	errno(t, "Weigh", q.Weigh(1, 3), api.OK)
	errno(t, "Charge", q.Charge(1), api.OK) // 1 and 1024 parts, in threes
	holds(t, "charged", q, view{1, 341, 3, false, []api.Ent{ent(1, 3, 341, 2)}})
	errno(t, "Weigh", q.Weigh(1, 2048), api.OK)
	errno(t, "Charge", q.Charge(1), api.OK) // 1365 and 1024 parts, of 2048
	dropped(t, q, 1, ent(1, 2048, 342, 341), api.OK)
}

// TestChargeNamed holds P8.1 of Charge: by how much V goes on, and what is left over, with one that is alone.
func TestChargeNamed(t *testing.T) {
	for _, row := range []struct {
		e    api.Ent
		ns   uint64
		v    int64
		rem  uint64
		flag bool
	}{
		{unit(1, 0), 0, 0, 0, false}, {unit(1, 0), 1, 1, 0, false}, {unit(1, 7), 5, 12, 0, false}, {ent(1, 1024, 7, 1023), 0, 7, 1023, false}, {ent(1, 1024, 7, 1023), 5, 12, 1023, false},
		{ent(1, 3, 0, 0), 1, 341, 1, false}, {ent(1, 3, 0, 2), 1, 342, 0, false}, {ent(1, 2, 0, 1), 1, 512, 1, false}, {ent(1, 262144, 0, 0), 1, 0, 1024, false}, {ent(1, 262144, 0, 262143), 1, 1, 1023, false},
		{unit(1, -7), 5, -2, 0, false}, {unit(1, -7), 9, 2, 0, false}, {unit(1, least), 1, least + 1, 0, false},
		{unit(1, 0), 1000000000, 1000000000, 0, false}, {ent(1, 2, 0, 1), 1000000000, 512000000000, 1, false}, {ent(1, 262144, 5, 3), 1000000000, 3906255, 3, false},
		{unit(1, greatest-5), 4, greatest - 1, 0, false}, {unit(1, greatest-5), 5, greatest, 0, false}, {unit(1, greatest-5), 6, greatest, 0, true},
		{unit(1, greatest), 0, greatest, 0, false}, {unit(1, greatest), 1, greatest, 0, true}, {ent(1, 3, greatest, 1), 1, greatest, 2, true}, {ent(1, 262144, greatest, 9), 1, greatest, 1033, false},
		{ent(1, 3, greatest-341, 0), 1, greatest, 1, false}, {ent(1, 3, greatest-341, 2), 1, greatest, 0, true}, {ent(1, 2, greatest-511, 0), 1, greatest, 0, true},
		{ent(1, 2, greatest, 1), 1000000000, greatest, 1, true}, {ent(1, 2, greatest-512000000000, 1), 1000000000, greatest, 1, false},
	} {
		q := served(t, 1, row.e)
		errno(t, "Charge", q.Charge(row.ns), api.OK)
		holds(t, "Charge", q, view{1, max(0, row.v), row.e.Weight, row.flag, []api.Ent{ent(1, row.e.Weight, row.v, row.rem)}})
	}
}

// TestChargeErrors holds P8.1 and R1 of Charge: without a current one, ahead of a time that may not be, and of such a time; nothing is changed.
func TestChargeErrors(t *testing.T) {
	for _, ns := range []uint64{0, 1, 1000000000, 1000000001, 1 << 63, math.MaxUint64} {
		errno(t, "Charge", runq.New().Charge(ns), api.ErrState)
		q := queue(t, unit(0, 3))
		errno(t, "Charge", q.Charge(ns), api.ErrState)
		holds(t, "Charge without one", q, view{-1, 3, 1024, false, []api.Ent{unit(0, 3)}})
	}
	q := served(t, 0, ent(0, 3, greatest, 2), unit(1, 7))
	ahead := look(q)
	for _, ns := range []uint64{1000000001, 1000000002, 1 << 32, 1 << 54, 1 << 63, math.MaxUint64} {
		errno(t, "Charge", q.Charge(ns), api.ErrTick)
		holds(t, "Charge with an error", q, ahead)
	}
	errno(t, "Charge", q.Charge(1000000000), api.OK)
}

// TestChargeMoves holds P8.1 and P8.4: the current one goes past others in the order, at one V by its Id, and stays the current one; the others stay as they are.
func TestChargeMoves(t *testing.T) {
	others := []api.Ent{ent(4, 7, 10, 6), ent(6, 8, 10, 7), ent(2, 9, 20, 8)}
	for _, row := range []struct {
		ns   uint64
		at   int // its place
		min  int64
		name string
	}{
		{0, 0, 3, "nothing"}, {6, 0, 9, "short of the first"}, {7, 1, 10, "at the first two, between them"}, {8, 2, 10, "past them"}, {17, 3, 10, "at the last"}, {18, 3, 10, "past it"},
	} {
		q := served(t, 5, append([]api.Ent{unit(5, 3)}, others...)...)
		errno(t, "Charge", q.Charge(row.ns), api.OK)
		holds(t, row.name, q, view{5, row.min, 1048, false, slices.Insert(slices.Clone(others), row.at, unit(5, 3+int64(row.ns)))})
	}
}

// TestFlagStays holds P8.1: the flag is set where a charge runs over, by nothing else, and stays.
func TestFlagStays(t *testing.T) {
	q := served(t, 1, unit(1, greatest-1), unit(2, greatest))
	// These sums run over too, but no charge does.
	number(t, "Pick(2^40)", q.Pick(top), 1)
	number(t, "Yield(2^40)", q.Yield(top), 2)
	number(t, "Pick(2^40)", q.Pick(top), 2)
	number(t, "Yield(2^63 - 1)", q.Yield(greatest), 1)
	errno(t, "Weigh", q.Weigh(1, 2), api.OK)
	errno(t, "Weigh", q.Weigh(1, 1024), api.OK)
	if q.Flag() {
		t.Fatal("Flag is set, and nothing was charged")
	}
	dropped(t, q, 2, unit(2, greatest), api.OK)
	errno(t, "Charge to the end", q.Charge(1), api.OK)
	if q.Flag() {
		t.Fatal("Flag is set, and nothing ran over")
	}
	errno(t, "Charge beyond it", q.Charge(1), api.OK)
	dropped(t, q, 1, unit(1, greatest), api.OK)
	errno(t, "Put", q.Put(unit(3, 0)), api.OK)
	number(t, "Pick", q.Pick(0), 3)
	errno(t, "Charge", q.Charge(1), api.OK)
	holds(t, "behind it", q, view{3, greatest, 1024, true, []api.Ent{unit(3, 1)}})
}

// TestMin holds P8.2 behind each call: where Min rises, where it stays, with nobody there, and behind an error.
func TestMin(t *testing.T) {
	q := runq.New()
	at := func(what string, err, want api.Errno, least int64) {
		t.Helper()
		errno(t, what, err, want)
		if n := q.Min(); n != least {
			t.Fatalf("Min behind %s: %d; wanted %d", what, n, least)
		}
	}
	drop := func(id int) api.Errno {
		_, err := q.Drop(id)
		return err
	}
	at("Put below it", q.Put(unit(1, -10)), api.OK, 0)
	at("Put of a second one", q.Put(unit(2, 50)), api.OK, 0)
	at("Put with an error", q.Put(unit(2, 90)), api.ErrBusy, 0)
	at("Drop with an error", drop(3), api.ErrNone, 0)
	at("Drop of the first one", drop(1), api.OK, 50)
	at("Put above it", q.Put(unit(1, 70)), api.OK, 50)
	at("Put below it", q.Put(unit(3, 40)), api.OK, 50)
	number(t, "Pick", q.Pick(0), 3)
	at("Pick", api.OK, api.OK, 50)
	at("Charge below it", q.Charge(9), api.OK, 50)
	at("Charge to it", q.Charge(1), api.OK, 50)
	at("Charge past another one", q.Charge(30), api.OK, 50)
	at("Charge with an error", q.Charge(1000000001), api.ErrTick, 50)
	number(t, "Pick", q.Pick(0), 2)
	at("Charge short of the others", q.Charge(15), api.OK, 65)
	at("Weigh", q.Weigh(2, 2), api.OK, 65)
	at("Weigh with an error", q.Weigh(2, 1), api.ErrWeight, 65)
	at("Charge past the others", q.Charge(1), api.OK, 70)
	number(t, "Yield", q.Yield(0), 1)
	at("Yield", api.OK, api.OK, 70)
	at("Drop of the first one, the current", drop(1), api.OK, 80)
	at("Drop of the last in order", drop(2), api.OK, 80)
	at("Drop of the last one there", drop(3), api.OK, 80)
	number(t, "Pick of nobody", q.Pick(0), -1)
	at("Drop of nobody", drop(3), api.ErrNone, 80)
	at("Charge of nobody", q.Charge(5), api.ErrState, 80)
	at("Put below it", q.Put(unit(4, least)), api.OK, 80)
	at("Put at it", q.Put(unit(5, 80)), api.OK, 80)
	at("Drop of that below it", drop(4), api.OK, 80)
	at("Put of the greatest", q.Put(unit(6, greatest)), api.OK, 80)
	at("Drop of all but that", drop(5), api.OK, greatest)
	at("Drop of that", drop(6), api.OK, greatest)
	at("Put of the least", q.Put(unit(1, least)), api.OK, greatest)
}

// TestPickNamed holds P8.3 of Pick where the current one stands around the least V of the others and gran together: it stays up to there.
func TestPickNamed(t *testing.T) {
	for _, row := range []struct {
		name               string
		current, other     int64 // their V
		gran               int64
		stays, otherAtLast bool // otherAtLast: the other one has the greater Id
	}{
		{"no gran, below", 9, 10, 0, true, true}, {"no gran, at", 10, 10, 0, true, true}, {"no gran, above", 11, 10, 0, false, true},
		{"at, the other has the lesser Id", 10, 10, 0, true, false}, {"above, likewise", 11, 10, 0, false, false},
		{"gran 5, below", 14, 10, 5, true, true}, {"gran 5, at", 15, 10, 5, true, true}, {"gran 5, above", 16, 10, 5, false, true},
		{"gran 5, at, likewise", 15, 10, 5, true, false}, {"gran 5, above, likewise", 16, 10, 5, false, false},
		{"gran below 0 counts as 0, at", 10, 10, -1, true, true}, {"gran below 0, above", 11, 10, -1, false, true},
		{"gran far below 0, at", 10, 10, least, true, true}, {"gran far below 0, above", 11, 10, least, false, true}, {"gran far below 0, far below", least, greatest, least, true, true},
		{"gran 2^40 less 1, at", top - 1, 0, top - 1, true, true}, {"gran 2^40 less 1, above", top, 0, top - 1, false, true},
		{"gran 2^40, at", top, 0, top, true, true}, {"gran 2^40, above", top + 1, 0, top, false, true},
		{"gran above counts as 2^40, at", top, 0, top + 1, true, true}, {"gran above, above", top + 1, 0, top + 1, false, true},
		{"the greatest gran, at", top, 0, greatest, true, true}, {"the greatest gran, above", top + 1, 0, greatest, false, true},
		{"the sum is the greatest, at", greatest, greatest - top, top, true, true}, {"the sum is one less, above", greatest, greatest - top - 1, top, false, true},
		{"the sum runs over", greatest, greatest - top + 1, top, true, true}, {"the sum runs over by far", greatest, greatest, top, true, true}, {"the sum runs over, a gran beyond", greatest, greatest - 1, greatest, true, true},
		{"below 0, at", -5, -10, 5, true, true}, {"below 0, above", -4, -10, 5, false, true}, {"around 0, at", 3, -2, 5, true, true}, {"around 0, above", 4, -2, 5, false, true},
		{"the least, at", least + 5, least, 5, true, true}, {"the least, above", least + 6, least, 5, false, true}, {"far apart", greatest, least, top, false, true},
	} {
		id, other := 5, 3
		if row.otherAtLast {
			other = 7
		}
		q := served(t, id, unit(id, row.current), unit(other, row.other), unit(9, greatest))
		want := id
		if !row.stays {
			want = other
		}
		number(t, row.name, q.Pick(row.gran), want)
		number(t, row.name+": Current", q.Current(), want)
	}
}

// TestPickAlone holds P8.3: one that is alone stays, or comes, whatever its V and gran are; nobody is -1.
func TestPickAlone(t *testing.T) {
	for _, v := range []int64{least, -1, 0, 1, top, greatest} {
		for _, gran := range []int64{least, -1, 0, 1, top, greatest} {
			q := queue(t, unit(4, v))
			number(t, "Current ahead of it", q.Current(), -1)
			number(t, "Pick of one alone", q.Pick(gran), 4)
			number(t, "Pick of it again", q.Pick(gran), 4)
			number(t, "Yield of it", q.Yield(gran), 4)
			number(t, "Current", q.Current(), 4)
			dropped(t, q, 4, unit(4, v), api.OK)
			number(t, "Pick of nobody", q.Pick(gran), -1)
			number(t, "Yield of nobody", q.Yield(gran), -1)
			number(t, "Current of nobody", q.Current(), -1)
		}
	}
}

// TestPickFirst holds P8.3: without a current one the first one of all is chosen, whatever gran is, by V and then by Id.
func TestPickFirst(t *testing.T) {
	for _, gran := range []int64{least, 0, 3, top, greatest} {
		q := queue(t, unit(8, 5), unit(2, 5), unit(1, 6), unit(0, 7))
		number(t, "Pick", q.Pick(gran), 2)
		dropped(t, q, 2, unit(2, 5), api.OK)
		number(t, "Yield without a current one", q.Yield(gran), 8)
		dropped(t, q, 8, unit(8, 5), api.OK)
		number(t, "Pick", q.Pick(gran), 1)
	}
}

// TestPickPastTwo holds P8.3: the current one that may not stay goes for the first one, though it was put last, and the least V of the others is asked, not the next in order.
func TestPickPastTwo(t *testing.T) {
	q := served(t, 1, unit(1, 100), unit(2, 99), unit(3, 60), unit(4, 101))
	number(t, "Pick(40)", q.Pick(40), 1)
	number(t, "Pick(39)", q.Pick(39), 3)
	number(t, "Pick(39) again", q.Pick(39), 3)
	errno(t, "Charge", q.Charge(39), api.OK)
	number(t, "Pick(0) at 99, as 2 is", q.Pick(0), 3)
	errno(t, "Charge", q.Charge(1), api.OK)
	number(t, "Pick(1) at 100", q.Pick(1), 3)
	number(t, "Pick(0) at 100", q.Pick(0), 2)
}

// TestOneV holds P8.3 of entities of one V: by their Ids, each till it is past the others.
func TestOneV(t *testing.T) {
	q := queue(t, unit(3, 0), unit(1, 0), unit(2, 0), unit(0, 0))
	var got []int
	for range 8 {
		got = append(got, q.Pick(0))
		errno(t, "Charge", q.Charge(1), api.OK)
	}
	// Who is charged last of a round stands with the others again, and stays.
	if want := []int{0, 1, 2, 3, 3, 0, 1, 2}; !slices.Equal(got, want) {
		t.Errorf("%v; wanted %v", got, want)
	}
}

// TestYieldNamed holds P8.3 of Yield where the first of the others stands around the current one's V and gran together: up to there it is chosen.
func TestYieldNamed(t *testing.T) {
	for _, row := range []struct {
		name           string
		current, other int64 // their V
		gran           int64
		goes           bool
	}{
		{"no gran, below", 10, 9, 0, true}, {"no gran, at", 10, 10, 0, true}, {"no gran, beyond", 10, 11, 0, false},
		{"gran 5, below", 10, 14, 5, true}, {"gran 5, at", 10, 15, 5, true}, {"gran 5, beyond", 10, 16, 5, false}, {"gran 5, far below", 10, -100, 5, true},
		{"gran below 0 counts as 0, at", 10, 10, -1, true}, {"gran below 0, beyond", 10, 11, -1, false}, {"gran far below 0, at", 10, 10, least, true}, {"gran far below 0, beyond", 10, 11, least, false},
		{"gran 2^40 less 1, at", 0, top - 1, top - 1, true}, {"gran 2^40 less 1, beyond", 0, top, top - 1, false},
		{"gran 2^40, at", 0, top, top, true}, {"gran 2^40, beyond", 0, top + 1, top, false},
		{"gran above counts as 2^40, at", 0, top, top + 1, true}, {"gran above, beyond", 0, top + 1, top + 1, false}, {"the greatest gran, beyond", 0, top + 1, greatest, false},
		{"the sum is the greatest, at", greatest - top, greatest, top, true}, {"the sum is one less, beyond", greatest - top - 1, greatest, top, false},
		{"the sum runs over", greatest - top + 1, greatest, top, true}, {"the sum runs over by far", greatest, greatest, top, true},
		{"below 0, at", -10, -5, 5, true}, {"below 0, beyond", -10, -4, 5, false}, {"around 0, at", -2, 3, 5, true}, {"around 0, beyond", -2, 4, 5, false},
		{"the least, at", least, least + 5, 5, true}, {"the least, beyond", least, least + 6, 5, false}, {"far apart", least, greatest, top, false}, {"far apart, ahead", greatest, least, 0, true},
	} {
		for _, other := range []int{3, 7} {
			q := served(t, 5, unit(5, row.current), unit(other, row.other), unit(9, greatest))
			want := 5
			if row.goes {
				want = other
			}
			number(t, row.name, q.Yield(row.gran), want)
			number(t, row.name+": Current", q.Current(), want)
		}
	}
}

// TestYieldOthers holds P8.3 of Yield: the first of the others by V and then by Id, and back again; nobody's V is changed.
func TestYieldOthers(t *testing.T) {
	q := served(t, 5, unit(5, 10), unit(8, 12), unit(6, 12), unit(7, 13))
	ents := []api.Ent{unit(5, 10), unit(6, 12), unit(8, 12), unit(7, 13)}
	for _, row := range []struct {
		gran int64
		want int
	}{{1, 5}, {2, 6}, {0, 5}, {2, 6}, {2, 5}, {1, 5}} {
		number(t, "Yield", q.Yield(row.gran), row.want)
		holds(t, "Yield", q, view{row.want, 10, 4096, false, ents})
	}
}

// TestEntsAreTheCallers holds R3 of what Ents tells: the caller may change it, and it stays as it is when the queue changes.
func TestEntsAreTheCallers(t *testing.T) {
	q := served(t, 1, unit(1, 3), unit(2, 5), unit(3, 9))
	ahead := look(q)
	told, again := q.Ents(), q.Ents()
	kept := slices.Clone(told)
	for i := range told {
		told[i] = ent(77, 88, 99, 11)
	}
	told = append(told[:0], ent(5, 5, 5, 5))
	holds(t, "a list that was changed", q, ahead)
	if !slices.Equal(again, kept) {
		t.Fatalf("two lists share: %v, %v", told, again)
	}
	errno(t, "Charge", q.Charge(50), api.OK)
	errno(t, "Weigh", q.Weigh(2, 7), api.OK)
	dropped(t, q, 3, unit(3, 9), api.OK)
	errno(t, "Put", q.Put(unit(4, 1)), api.OK)
	if !slices.Equal(again, kept) {
		t.Fatalf("what was told has changed: %v; wanted %v", again, kept)
	}
}

// TestEntsAreTheCallersCopies holds R3 of what is put, and of what Drop tells: it may be changed, and nothing in the queue does.
func TestEntsAreTheCallersCopies(t *testing.T) {
	e := unit(1, 3)
	q := queue(t, e, unit(2, 4))
	e.V, e.Weight, e.Id = 50, 2, 9
	holds(t, "what was put is changed", q, view{-1, 3, 2048, false, []api.Ent{unit(1, 3), unit(2, 4)}})
	d, _ := q.Drop(1)
	d.V, d.Weight, d.Rem = 1, 7, 3
	errno(t, "Put", q.Put(d), api.OK)
	d.V = 100
	holds(t, "what was dropped is changed", q, view{-1, 4, 1031, false, []api.Ent{ent(1, 7, 1, 3), unit(2, 4)}})
}

// TestErrorsChangeNothing holds R1 of all calls with an error, one behind the other, in queues with and without a current one.
func TestErrorsChangeNothing(t *testing.T) {
	many := filled(t, full)
	number(t, "Pick", many.Pick(0), 0)
	errno(t, "Charge", many.Charge(7), api.OK)
	for _, q := range []*runq.Queue{runq.New(), queue(t, unit(1, 5)), served(t, 1, ent(1, 9, 5, 8), unit(2, 4)), many} {
		ahead := look(q)
		put := func(e api.Ent) {
			t.Helper()
			if q.Put(e) == api.OK {
				t.Fatalf("Put(%v): no error", e)
			}
			holds(t, "Put", q, ahead)
		}
		put(unit(-1, 100))
		put(ent(500, 1, 100, 0))
		put(ent(500, 2, 100, 2))
		for _, e := range ahead.ents {
			e.V = 1000
			put(e)
			errno(t, "Weigh", q.Weigh(e.Id, 1), api.ErrWeight)
			holds(t, "Weigh", q, ahead)
		}
		dropped(t, q, 500, api.Ent{}, api.ErrNone)
		errno(t, "Weigh", q.Weigh(500, 7), api.ErrNone)
		if q.Charge(math.MaxUint64) == api.OK {
			t.Fatal("Charge: no error")
		}
		holds(t, "all of it", q, ahead)
	}
}

// TestAskingChangesNothing holds P8.4: what only asks leaves the queue as it is, and tells the same again.
func TestAskingChangesNothing(t *testing.T) {
	q := served(t, 3, ent(3, 7, 5, 6), unit(1, 5), unit(2, -4))
	ahead := look(q)
	for range 3 {
		holds(t, "asked again", q, ahead)
	}
	number(t, "Pick", q.Pick(8), 2)
}

// TestQueuesApart holds R4: two queues share nothing.
func TestQueuesApart(t *testing.T) {
	a, b := newPair(t), newPair(t)
	c := newChance()
	for range 3000 {
		a.step(c, 6, 5, true)
		b.left("the other one was asked")
		b.step(c, 6, 5, true)
		a.left("the other one was asked")
	}
}

// TestSameAgain holds R4: the same calls have the same answers, however the map would be gone through, whatever other queues were asked ahead.
func TestSameAgain(t *testing.T) {
	run := func() []view {
		p, c := newPair(t), newChance()
		var out []view
		for range 2000 {
			p.step(c, 60, 7, true)
			out = append(out, look(p.q))
		}
		return out
	}
	first := run()
	for range 3 {
		if !slices.EqualFunc(first, run(), view.is) {
			t.Fatal("the same calls had other answers")
		}
	}
}
