package hier_test

import (
	"math"
	"slices"
	"testing"

	"dole/api"
	"dole/hier"
)

// Ends and limits, the latter by the chapter's words.
const (
	least    = math.MinInt64
	greatest = math.MaxInt64
	groups   = 32
	tasks    = 64
	deep     = 8
	longest  = 1000000000
	top      = 1 << 40 // the greatest credit and gran
)

func ent(id int, w uint64, v int64, rem uint64) api.Ent {
	return api.Ent{Id: id, Weight: w, V: v, Rem: rem}
}

// unit is one of the weight 1024, with nothing left over.
func unit(id int, v int64) api.Ent { return ent(id, 1024, v, 0) }

// seen is all that is told of one group, view all that is told of a Hier.
type seen struct {
	ents        []api.Ent
	min         int64
	load        uint64
	on, stopped bool
}

type view struct {
	all     []seen
	running int
	flag    bool
}

func see(h *hier.Hier, g int) seen {
	return seen{h.Queue(g), h.Min(g), h.Load(g), h.On(g), h.Stopped(g)}
}

func (s seen) is(other seen) bool {
	return slices.Equal(s.ents, other.ents) && s.min == other.min && s.load == other.load && s.on == other.on && s.stopped == other.stopped
}

func look(h *hier.Hier) view {
	v := view{running: h.Running(), flag: h.Flag()}
	for g := range groups {
		v.all = append(v.all, see(h, g))
	}
	return v
}

func (v view) is(other view) bool {
	return slices.EqualFunc(v.all, other.all, seen.is) && v.running == other.running && v.flag == other.flag
}

func same(t *testing.T, what string, got, want view) {
	t.Helper()
	if !got.is(want) {
		t.Fatalf("%s: %v; wanted %v", what, got, want)
	}
}

func holds(t *testing.T, what string, h *hier.Hier, g int, want seen) {
	t.Helper()
	if got := see(h, g); !got.is(want) {
		t.Fatalf("%s: group %d: %v; wanted %v", what, g, got, want)
	}
}

func ents(t *testing.T, what string, h *hier.Hier, g int, want ...api.Ent) {
	t.Helper()
	if got := h.Queue(g); !slices.Equal(got, want) {
		t.Fatalf("%s: Queue(%d): %v; wanted %v", what, g, got, want)
	}
}

func errno(t *testing.T, what string, got, want api.Errno) {
	t.Helper()
	if got != want {
		t.Fatalf("%s: %d; wanted %d", what, got, want)
	}
}

func number[N int | int64 | uint64](t *testing.T, what string, got, want N) {
	t.Helper()
	if got != want {
		t.Fatalf("%s: %d; wanted %d", what, got, want)
	}
}

func truth(t *testing.T, what string, got, want bool) {
	t.Helper()
	if got != want {
		t.Fatalf("%s: %t; wanted %t", what, got, want)
	}
}

// put, drop, link, move and stop hold a call to be done.
func put(t *testing.T, h *hier.Hier, g int, l ...api.Ent) {
	t.Helper()
	for _, e := range l {
		errno(t, "Put", h.Put(g, e), api.OK)
	}
}

func drop(t *testing.T, h *hier.Hier, g, task int) api.Ent {
	t.Helper()
	e, err := h.Drop(g, task)
	errno(t, "Drop", err, api.OK)
	number(t, "the Id that Drop tells", e.Id, task)
	return e
}

func link(t *testing.T, h *hier.Hier, g, parent int) {
	t.Helper()
	errno(t, "Link", h.Link(g, parent), api.OK)
}

func move(t *testing.T, h *hier.Hier, g, parent int) {
	t.Helper()
	errno(t, "Move", h.Move(g, parent), api.OK)
}

func stop(t *testing.T, h *hier.Hier, g int, is bool) {
	t.Helper()
	errno(t, "Stop", h.Stop(g, is), api.OK)
	truth(t, "Stopped", h.Stopped(g), is)
}

func charge(t *testing.T, h *hier.Hier, ns uint64) {
	t.Helper()
	errno(t, "Charge", h.Charge(ns), api.OK)
}

func pick(t *testing.T, h *hier.Hier, want int) {
	t.Helper()
	number(t, "Pick", h.Pick(), want)
	number(t, "Running behind Pick", h.Running(), want)
}

// refused holds a call to its error, and to have changed nothing.
func refused(t *testing.T, what string, h *hier.Hier, call func() api.Errno, want api.Errno) {
	t.Helper()
	before := look(h)
	errno(t, what, call(), want)
	same(t, what+": refused", look(h), before)
}

// chained has, within the root, 1, within that 2, and so on.
func chained(t *testing.T, credit, gran int64, count int) *hier.Hier {
	t.Helper()
	h := hier.New(credit, gran)
	for g := 1; g <= count; g++ {
		link(t, h, g, g-1)
	}
	return h
}

// is tells whether a group is there: of the task 63, which no test of whose calls it is asked puts, there is none then.
func is(h *hier.Hier, g int) bool { return h.Nice(g, 63, 1024) == api.ErrNone }

// noGroups and noTasks are numbers that none may have; doubled and cut to 64 bits, some would be one's.
func noGroups() []int {
	return []int{math.MinInt, math.MinInt + 1, -32, -2, -1, 32, 33, 63, 64, 1 << 32, 1<<32 + 1, 1 << 62, math.MaxInt}
}

func noTasks() []int {
	return []int{math.MinInt, math.MinInt + 1, -64, -2, -1, 64, 65, 127, 128, 1 << 32, 1<<32 + 1, 1 << 62, math.MaxInt}
}

// TestExamples holds P20.1 to P20.4 to the chapter's examples.
func TestExamples(t *testing.T) {
	h := hier.New(0, 0)
	link(t, h, 1, 0)
	put(t, h, 0, ent(0, 1024, 0, 0))
	put(t, h, 1, ent(1, 1024, 0, 0))
	ents(t, "the root's queue", h, 0, unit(0, 0), unit(3, 0))
	ents(t, "the group's", h, 1, unit(2, 0))
	pick(t, h, 0)
	charge(t, h, 9)
	ents(t, "charged", h, 0, unit(3, 0), unit(0, 9))
	pick(t, h, 1)
	stop(t, h, 1, true)
	pick(t, h, 0)
}

// TestNew holds P20.3 and P20.4 of a Hier that is new: the root is there alone, with a queue that has nobody.
func TestNew(t *testing.T) {
	for _, n := range []int64{least, -1, 0, 1, top, greatest} {
		h := hier.New(n, -n)
		for _, g := range append(noGroups(), 0, 1, 2, 31) {
			holds(t, "New", h, g, seen{})
			truth(t, "is there", is(h, g), g == 0)
		}
		number(t, "Running", h.Running(), -1)
		truth(t, "Flag", h.Flag(), false)
		number(t, "Pick", h.Pick(), -1)
		number(t, "Yield", h.Yield(), -1)
		for _, ns := range []uint64{0, 1, longest, longest + 1, math.MaxUint64} {
			errno(t, "Charge", h.Charge(ns), api.ErrState)
		}
	}
}

// askAll asks each call, with what may be and what may not; it tells all errors and all entities.
func askAll(h *hier.Hier) ([]api.Errno, []api.Ent) {
	var errs []api.Errno
	var told []api.Ent
	for _, g := range append(noGroups(), 0, 1, 31) {
		for _, n := range append(noTasks(), 0, 1, 63) {
			errs = append(errs, h.Link(g, n), h.Move(g, n), h.Put(g, unit(n, 0)), h.Put(g, ent(n, 1, 0, 0)), h.Put(g, ent(n, 1024, greatest, 1024)))
			errs = append(errs, h.Nice(g, n, 1024), h.Nice(g, n, 0))
			e, err := h.Drop(g, n)
			errs, told = append(errs, err), append(told, e)
		}
		errs = append(errs, h.Unlink(g), h.Weigh(g, 1024), h.Weigh(g, 0), h.Stop(g, true), h.Stop(g, false))
	}
	for _, ns := range []uint64{0, 1, longest, longest + 1, math.MaxUint64} {
		errs = append(errs, h.Charge(ns))
	}
	return errs, told
}

// TestNil holds P20.4's last words, and P1, of each call.
func TestNil(t *testing.T) {
	var h *hier.Hier
	errs, told := askAll(h)
	for _, e := range errs {
		errno(t, "a call", e, api.ErrArg)
	}
	for _, e := range told {
		if e != (api.Ent{}) {
			t.Fatalf("Drop: %v", e)
		}
	}
	number(t, "Pick", h.Pick(), -1)
	number(t, "Yield", h.Yield(), -1)
	number(t, "Running", h.Running(), -1)
	truth(t, "Flag", h.Flag(), false)
	for _, g := range append(noGroups(), 0, 1, 31) {
		holds(t, "nil", h, g, seen{})
	}
}

// TestZero holds P1: R5 asks a zero Hier nothing, so that any answer will do, but a panic would not.
func TestZero(t *testing.T) {
	var h hier.Hier
	askAll(&h)
	h.Pick()
	h.Yield()
	look(&h)
}

// TestNothingPanics holds P1 of a Hier of New's, at numbers of all kinds.
func TestNothingPanics(t *testing.T) {
	h := chained(t, greatest, least, deep)
	for range 3 {
		askAll(h)
		h.Pick()
		h.Yield()
		look(h)
	}
}

// TestPutNamed holds P20.2 of Put: where, who, and the queue's errors, in turn.
func TestPutNamed(t *testing.T) {
	for _, g := range []int{0, 1} {
		h := chained(t, 0, 0, 1)
		for _, to := range append(noGroups(), 2, 31) {
			for _, e := range []api.Ent{unit(0, 0), ent(0, 1, 0, 0), unit(64, 0)} {
				refused(t, "Put where nothing is", h, func() api.Errno { return h.Put(to, e) }, api.ErrArg)
			}
		}
		for _, id := range noTasks() {
			for _, e := range []api.Ent{unit(id, 0), ent(id, 1, 0, 0), ent(id, 1024, 0, 1024)} {
				refused(t, "Put of what is no task", h, func() api.Errno { return h.Put(g, e) }, api.ErrArg)
			}
		}
		put(t, h, g, unit(5, 0))
		for _, row := range []struct {
			e    api.Ent
			want api.Errno
		}{
			{ent(5, 1, 0, 1024), api.ErrWeight}, {ent(6, 0, 0, 0), api.ErrWeight}, {ent(6, 1, 0, 1), api.ErrWeight}, {ent(6, 262145, 0, 0), api.ErrWeight},
			{ent(5, 1024, 0, 1024), api.ErrArg}, {ent(6, 1024, 0, 1024), api.ErrArg}, {ent(6, 2, 0, 2), api.ErrArg},
			{unit(5, 0), api.ErrBusy}, {ent(5, 2, 7, 1), api.ErrBusy},
		} {
			refused(t, "Put", h, func() api.Errno { return h.Put(g, row.e) }, row.want)
		}
		for _, e := range []api.Ent{ent(0, 2, least, 1), ent(1, 262144, greatest, 262143), ent(62, 3, -5, 2), unit(63, 5)} {
			put(t, h, g, e)
			if got := drop(t, h, g, e.Id); got != e {
				t.Fatalf("Drop behind Put(%v): %v", e, got)
			}
		}
	}
}

// TestPutInTwo holds P20.2: a task may stand in several queues, each of which has it for itself.
func TestPutInTwo(t *testing.T) {
	h := chained(t, 0, 0, 2)
	put(t, h, 0, ent(7, 2, 1, 1))
	put(t, h, 1, ent(7, 3, 2, 2))
	put(t, h, 2, ent(7, 4, 3, 3))
	errno(t, "Nice", h.Nice(1, 7, 6), api.OK)
	for g, want := range []api.Ent{ent(7, 2, 1, 1), ent(7, 6, 2, 4), ent(7, 4, 3, 3)} {
		if got := drop(t, h, g, 7); got != want {
			t.Fatalf("Drop: %v; wanted %v", got, want)
		}
		if _, err := h.Drop(g, 7); err != api.ErrNone {
			t.Fatalf("Drop again: %d", err)
		}
	}
}

// TestDropNamed holds P20.2 of Drop and Nice: where, who, and the queue's errors, in turn; with an error Drop tells nobody.
func TestDropNamed(t *testing.T) {
	h := chained(t, 0, 0, 1)
	put(t, h, 0, unit(5, 3))
	put(t, h, 1, unit(6, 4))
	no := func(g, task int, want api.Errno) {
		t.Helper()
		refused(t, "Drop", h, func() api.Errno {
			e, err := h.Drop(g, task)
			if e != (api.Ent{}) {
				t.Fatalf("Drop(%d, %d): %v", g, task, e)
			}
			return err
		}, want)
		for _, w := range []uint64{0, 1, 2, 1024, 262144, 262145, math.MaxUint64} {
			refused(t, "Nice", h, func() api.Errno { return h.Nice(g, task, w) }, want)
		}
	}
	for _, g := range append(noGroups(), 2, 31) {
		for _, task := range []int{5, 6, 7, 64, -1} {
			no(g, task, api.ErrArg)
		}
	}
	for _, g := range []int{0, 1} {
		for _, task := range noTasks() {
			no(g, task, api.ErrArg)
		}
		// The group 1 has the Id 3, but no task is that.
		for _, task := range []int{0, 1, 2, 3, 4, 6 - g, 7, 62, 63} {
			no(g, task, api.ErrNone)
		}
		for _, w := range []uint64{0, 1, 262145, 1<<32 + 1024, math.MaxUint64} {
			refused(t, "Nice", h, func() api.Errno { return h.Nice(g, 5+g, w) }, api.ErrWeight)
		}
	}
}

// TestNice holds P20.2 of Nice: the weight, and what is left over of it; nobody else's.
func TestNice(t *testing.T) {
	h := chained(t, 0, 0, 1)
	put(t, h, 1, ent(5, 1000, 4, 500))
	put(t, h, 0, ent(5, 1000, 3, 999))
	for _, row := range []struct{ w, rem uint64 }{{2, 1}, {262144, 131072}, {1024, 512}, {3, 1}, {1000, 333}} {
		errno(t, "Nice", h.Nice(1, 5, row.w), api.OK)
		ents(t, "the group's", h, 1, ent(10, row.w, 4, row.rem))
		ents(t, "the root's", h, 0, unit(3, 0), ent(10, 1000, 3, 999))
	}
	errno(t, "Nice", h.Nice(0, 5, 500), api.OK)
	ents(t, "the root's", h, 0, unit(3, 0), ent(10, 500, 3, 499))
	ents(t, "the group's", h, 1, ent(10, 1000, 4, 333))
}

// stands holds which of the groups of a chain stand in the queue of the one above.
func stands(t *testing.T, what string, h *hier.Hier, want ...bool) {
	t.Helper()
	for i, on := range want {
		g := i + 1
		truth(t, what+": On", h.On(g), on)
		found := slices.ContainsFunc(h.Queue(g-1), func(e api.Ent) bool { return e.Id == 2*g+1 })
		truth(t, what+": in the queue above", found, on)
	}
}

// TestSettles holds P20.2: behind Put, Drop and Stop each group up the way stands where it should, and only those.
func TestSettles(t *testing.T) {
	h := chained(t, 0, 0, 4)
	stands(t, "linked", h, false, false, false, false)
	put(t, h, 3, unit(0, 0))
	stands(t, "put in 3", h, true, true, true, false)
	put(t, h, 3, unit(1, 0))
	put(t, h, 1, unit(2, 0))
	drop(t, h, 3, 0)
	stands(t, "one is left in 3", h, true, true, true, false)
	drop(t, h, 3, 1)
	stands(t, "none is left in 3", h, true, false, false, false)
	drop(t, h, 1, 2)
	stands(t, "none is left", h, false, false, false, false)
	put(t, h, 4, unit(0, 0))
	stop(t, h, 2, true)
	stands(t, "2 is stopped", h, false, false, true, true)
	stop(t, h, 2, true)
	stands(t, "2 is stopped again", h, false, false, true, true)
	put(t, h, 2, unit(1, 0))
	drop(t, h, 4, 0)
	stands(t, "dropped below a stopped one", h, false, false, false, false)
	put(t, h, 4, unit(0, 0))
	drop(t, h, 2, 1)
	stands(t, "put below a stopped one", h, false, false, true, true)
	stop(t, h, 4, true)
	stands(t, "4 is stopped too", h, false, false, false, false)
	stop(t, h, 2, false)
	stands(t, "2 goes, with nobody", h, false, false, false, false)
	stop(t, h, 4, false)
	stands(t, "4 goes", h, true, true, true, true)
	stop(t, h, 1, true)
	stands(t, "1 is stopped", h, false, true, true, true)
	stop(t, h, 1, false)
	stands(t, "1 goes", h, true, true, true, true)
	stop(t, h, 1, false)
	stands(t, "1 goes again", h, true, true, true, true)
}

// TestStopEmpty holds P20.2 of a group that is stopped while nobody is in it: it is from then on.
func TestStopEmpty(t *testing.T) {
	h := chained(t, 0, 0, 2)
	stop(t, h, 2, true)
	truth(t, "Stopped above", h.Stopped(1), false)
	put(t, h, 2, unit(0, 0))
	stands(t, "put while stopped", h, false, false)
	put(t, h, 1, unit(1, 0))
	stands(t, "put above", h, true, false)
	stop(t, h, 2, false)
	stands(t, "let go", h, true, true)
}

// TestStopNamed holds P20.2 of Stop and Weigh, and P20.4: the root can't be stopped or weighed, nor what isn't linked.
func TestStopNamed(t *testing.T) {
	h := chained(t, 0, 0, 1)
	put(t, h, 0, unit(1, 0))
	for _, g := range append(noGroups(), 0, 2, 31) {
		for _, is := range []bool{true, false} {
			refused(t, "Stop", h, func() api.Errno { return h.Stop(g, is) }, api.ErrArg)
		}
		for _, w := range []uint64{0, 1, 2, 1024, 262144, 262145, math.MaxUint64} {
			refused(t, "Weigh", h, func() api.Errno { return h.Weigh(g, w) }, api.ErrArg)
		}
		truth(t, "On", h.On(g), false)
		truth(t, "Stopped", h.Stopped(g), false)
	}
	put(t, h, 1, unit(1, 0))
	for range 2 {
		for _, w := range []uint64{0, 1, 262145, 1<<32 + 1024, 1 << 63, math.MaxUint64} {
			refused(t, "Weigh", h, func() api.Errno { return h.Weigh(1, w) }, api.ErrWeight)
		}
		stop(t, h, 1, true)
	}
}

// TestWeigh holds P20.2 of Weigh: of a group that stands in a queue, and of its own entity, what is left over is made alike.
func TestWeigh(t *testing.T) {
	rows := []struct{ w, rem uint64 }{{3000, 1024}, {3, 1}, {262144, 87381}, {2, 0}, {262143, 0}}
	for _, off := range []bool{false, true} {
		h := chained(t, 100, 0, 1)
		errno(t, "Weigh", h.Weigh(1, 3000), api.OK)
		put(t, h, 0, unit(9, 50))
		put(t, h, 1, unit(0, 0))
		ents(t, "put", h, 0, ent(3, 3000, 0, 0), unit(18, 50))
		pick(t, h, 0)
		charge(t, h, 1)
		ents(t, "charged", h, 0, ent(3, 3000, 0, 1024), unit(18, 50))
		for _, row := range rows {
			stop(t, h, 1, off)
			errno(t, "Weigh", h.Weigh(1, row.w), api.OK)
			number(t, "Load", h.Load(0), 1024+row.w*uint64(btoi(!off)))
			stop(t, h, 1, false)
			ents(t, "weighed", h, 0, ent(3, row.w, 0, row.rem), unit(18, 50))
			ents(t, "the group's own", h, 1, unit(0, 1))
		}
	}
}

// TestOwn holds P20.2: what a group's entity was as it was dropped, it is as it is put again.
func TestOwn(t *testing.T) {
	h := chained(t, 0, 1000, 1)
	errno(t, "Weigh", h.Weigh(1, 3), api.OK)
	put(t, h, 1, unit(0, 0))
	pick(t, h, 0)
	put(t, h, 0, unit(9, 0))
	charge(t, h, 2)
	for range 3 {
		ents(t, "charged", h, 0, unit(18, 0), ent(3, 3, 682, 2))
		stop(t, h, 1, true)
		ents(t, "stopped", h, 0, unit(18, 0))
		stop(t, h, 1, false)
		ents(t, "let go", h, 0, unit(18, 0), ent(3, 3, 682, 2))
		drop(t, h, 1, 0)
		ents(t, "dropped", h, 0, unit(18, 0))
		put(t, h, 1, unit(0, 0))
	}
}

// TestWakes holds P20.2 of where a group's entity is put: not below Min less the credit, which counts as 0 to 2^40; where it is above, it stays.
func TestWakes(t *testing.T) {
	for _, row := range []struct{ credit, min, is int64 }{
		{0, 100, 100}, {1, 100, 99}, {30, 100, 70}, {99, 100, 1}, {100, 100, 0}, {101, 100, 0}, {greatest, 100, 0},
		{-1, 100, 100}, {least, 100, 100}, {0, 0, 0}, {50, 0, 0},
		{top - 1, 2 * top, top + 1}, {top, 2 * top, top}, {top + 1, 2 * top, top}, {greatest, 2 * top, top},
		{0, greatest, greatest}, {top, greatest, greatest - top}, {greatest, greatest, greatest - top},
	} {
		h := hier.New(row.credit, 0)
		link(t, h, 1, 0)
		link(t, h, 2, 1)
		put(t, h, 1, unit(9, row.min))
		stop(t, h, 1, true)
		put(t, h, 2, unit(0, 0))
		ents(t, "woken", h, 1, unit(5, row.is), unit(18, row.min))
		number(t, "Min", h.Min(1), row.min)
	}
}

// TestWakesAhead holds P20.2: one that is ahead of Min less the credit is put where it was.
func TestWakesAhead(t *testing.T) {
	for _, row := range []struct{ credit, min, is int64 }{
		{0, 0, 500}, {0, 499, 500}, {0, 500, 500}, {0, 501, 501}, {20, 519, 500}, {20, 520, 500}, {20, 521, 501}, {0, 600, 600}, {20, 600, 580},
	} {
		h := hier.New(row.credit, 0)
		link(t, h, 1, 0)
		put(t, h, 1, unit(0, 0))
		pick(t, h, 0)
		put(t, h, 0, unit(9, 0))
		charge(t, h, 500)
		drop(t, h, 1, 0)
		drop(t, h, 0, 9)
		put(t, h, 0, unit(9, row.min))
		number(t, "Min", h.Min(0), row.min)
		put(t, h, 1, unit(0, 0))
		if got := h.Queue(0); !slices.Contains(got, unit(3, row.is)) || len(got) != 2 {
			t.Fatalf("credit %d, Min %d: %v; wanted 3 at %d", row.credit, row.min, got, row.is)
		}
	}
}

// TestPickGoesDown holds P20.3: each queue on the way is picked, and no other one.
func TestPickGoesDown(t *testing.T) {
	h := chained(t, 0, 0, 3)
	put(t, h, 3, unit(0, 0))
	number(t, "Running ahead of Pick", h.Running(), -1)
	pick(t, h, 0)
	put(t, h, 3, unit(1, -5))
	pick(t, h, 1)
	put(t, h, 1, unit(2, -1))
	pick(t, h, 2)
	drop(t, h, 1, 2)
	number(t, "Running", h.Running(), -1)
	// Neither of the queues below was picked meanwhile: 1 is the current one of 3 still.
	pick(t, h, 1)
	drop(t, h, 3, 1)
	number(t, "Running", h.Running(), -1)
	errno(t, "Charge", h.Charge(1), api.ErrState)
	pick(t, h, 0)
	drop(t, h, 3, 0)
	number(t, "Running", h.Running(), -1)
	number(t, "Pick", h.Pick(), -1)
}

// TestPickLeavesOthers holds P20.3: a queue that is not on the way keeps its current one, even where another one would be picked.
func TestPickLeavesOthers(t *testing.T) {
	h := chained(t, 0, 0, 1)
	put(t, h, 1, unit(0, 0))
	pick(t, h, 0)
	put(t, h, 0, unit(2, -1))
	put(t, h, 1, unit(1, -1))
	pick(t, h, 2)
	stop(t, h, 1, true)
	drop(t, h, 0, 2)
	stop(t, h, 1, false)
	number(t, "Running", h.Running(), -1)
	pick(t, h, 1)
	// The root stays with the group, and the group with its current one, both within the gran.
	near := chained(t, 0, 10, 1)
	put(t, near, 1, unit(0, 0))
	pick(t, near, 0)
	put(t, near, 1, unit(1, -10))
	put(t, near, 0, unit(2, -10))
	pick(t, near, 0)
	put(t, near, 1, unit(3, -11))
	pick(t, near, 3)
	put(t, near, 0, unit(4, -11))
	pick(t, near, 4)
}

// TestGran holds P20.3: each queue is picked with gran, which counts as 0 to 2^40.
func TestGran(t *testing.T) {
	for _, row := range []struct {
		gran  int64
		least int64
		stays bool
	}{
		{0, 0, true}, {0, -1, false}, {1, -1, true}, {1, -2, false}, {50, -50, true}, {50, -51, false},
		{-1, 0, true}, {-1, -1, false}, {least, -1, false}, {top, -top, true}, {top, -top - 1, false}, {top + 1, -top - 1, false}, {greatest, -top, true}, {greatest, -top - 1, false},
	} {
		// At the root, and in the queue below.
		for g := range 2 {
			h := chained(t, 0, row.gran, 1)
			put(t, h, g, unit(5, 0))
			pick(t, h, 5)
			put(t, h, g, unit(4, row.least))
			want := 4 + btoi(row.stays)
			pick(t, h, want)
		}
	}
}

// TestRunning holds P20.3: the way of the current ones, which Put, Drop and Stop may break, and Pick mends.
func TestRunning(t *testing.T) {
	h := chained(t, 0, 0, 2)
	put(t, h, 2, unit(0, 0))
	put(t, h, 2, unit(1, 0))
	pick(t, h, 0)
	put(t, h, 2, unit(2, -9))
	number(t, "put", h.Running(), 0)
	put(t, h, 0, unit(3, -9))
	number(t, "put above", h.Running(), 0)
	drop(t, h, 0, 3)
	drop(t, h, 2, 2)
	number(t, "another one dropped", h.Running(), 0)
	stop(t, h, 1, true)
	number(t, "stopped", h.Running(), -1)
	stop(t, h, 1, false)
	number(t, "let go", h.Running(), -1)
	pick(t, h, 0)
	stop(t, h, 2, true)
	number(t, "stopped below", h.Running(), -1)
	number(t, "Pick", h.Pick(), -1)
	stop(t, h, 2, false)
	pick(t, h, 0)
	drop(t, h, 2, 0)
	number(t, "dropped", h.Running(), -1)
	errno(t, "Charge", h.Charge(0), api.ErrState)
	pick(t, h, 1)
}

// TestCharge holds P20.3 of Charge: each queue on the way is charged, by its weights, and no other one.
func TestCharge(t *testing.T) {
	h := chained(t, 0, 0, 2)
	link(t, h, 3, 1)
	errno(t, "Weigh", h.Weigh(1, 2048), api.OK)
	errno(t, "Weigh", h.Weigh(2, 512), api.OK)
	put(t, h, 2, ent(0, 3, 0, 0))
	put(t, h, 2, unit(1, 100))
	pick(t, h, 0)
	put(t, h, 3, unit(4, 0))
	put(t, h, 1, unit(5, 7))
	put(t, h, 0, unit(6, 8))
	charge(t, h, 1)
	charge(t, h, 4)
	charge(t, h, 0)
	ents(t, "0", h, 0, ent(3, 2048, 2, 1024), unit(12, 8))
	ents(t, "1", h, 1, unit(7, 0), unit(10, 7), ent(5, 512, 10, 0))
	ents(t, "2", h, 2, unit(2, 100), ent(0, 3, 1706, 2))
	ents(t, "3", h, 3, unit(8, 0))
	for g, min := range []int64{2, 0, 100, 0} {
		number(t, "Min", h.Min(g), min)
	}
	number(t, "Running behind Charge", h.Running(), 0)
}

// TestChargeNamed holds P20.3 of Charge's errors, in turn, and the longest tick.
func TestChargeNamed(t *testing.T) {
	h := chained(t, 0, 0, 1)
	put(t, h, 1, unit(0, 0))
	for _, ns := range []uint64{0, 1, longest, longest + 1, math.MaxUint64} {
		refused(t, "Charge of nobody", h, func() api.Errno { return h.Charge(ns) }, api.ErrState)
	}
	pick(t, h, 0)
	for _, ns := range []uint64{longest + 1, longest + 2, 1 << 32, 1 << 63, math.MaxUint64} {
		refused(t, "Charge of more than a tick", h, func() api.Errno { return h.Charge(ns) }, api.ErrTick)
	}
	charge(t, h, longest)
	ents(t, "0", h, 0, unit(3, longest))
	ents(t, "1", h, 1, unit(0, longest))
	charge(t, h, longest-1)
	ents(t, "0", h, 0, unit(3, 2*longest-1))
}

// TestYieldLast holds P20.3 of Yield: only the last queue yields, and those above it stay as a Pick lets them.
func TestYieldLast(t *testing.T) {
	h := chained(t, 0, 10, 1)
	put(t, h, 1, unit(1, 0), unit(2, 10))
	pick(t, h, 1)
	put(t, h, 0, unit(0, 0))
	for _, want := range []int{2, 1, 2} {
		number(t, "Yield", h.Yield(), want)
		number(t, "Running", h.Running(), want)
	}
	drop(t, h, 1, 1)
	// There is nobody else in the last queue, and the root's does not yield.
	number(t, "Yield of one alone", h.Yield(), 2)
	put(t, h, 1, unit(3, 21))
	number(t, "Yield to one that is too far", h.Yield(), 2)
	put(t, h, 1, unit(4, 20))
	number(t, "Yield to one that is near", h.Yield(), 4)
	stop(t, h, 1, true)
	pick(t, h, 0)
	stop(t, h, 1, false)
	// Now the root's queue is the last one.
	number(t, "Yield in the root", h.Yield(), 4)
}

// TestYieldPicks holds P20.3: Pick comes behind it, so that another way may be gone then; the last queue has yielded all the same.
func TestYieldPicks(t *testing.T) {
	h := chained(t, 0, 10, 1)
	put(t, h, 1, unit(1, 0), unit(2, 5))
	pick(t, h, 1)
	put(t, h, 0, unit(0, -11))
	number(t, "Yield, with one above that is first", h.Yield(), 0)
	drop(t, h, 0, 0)
	pick(t, h, 2)
	// One that is charged beyond gran goes.
	put(t, h, 0, unit(0, 0))
	charge(t, h, 11)
	number(t, "Yield of one that went too far", h.Yield(), 0)
	drop(t, h, 0, 0)
	pick(t, h, 1)
}

// TestYieldOfNobody holds P20.3: where nobody runs, nothing yields, and Pick comes all the same.
func TestYieldOfNobody(t *testing.T) {
	h := chained(t, 0, 10, 1)
	number(t, "Yield", h.Yield(), -1)
	put(t, h, 1, unit(1, 0), unit(2, 0))
	number(t, "Yield ahead of Pick", h.Yield(), 1)
	put(t, h, 0, unit(0, 0))
	drop(t, h, 1, 1)
	number(t, "Running", h.Running(), -1)
	// The group is the root's current one still, and that must not yield: 0 is near.
	number(t, "Yield of nobody", h.Yield(), 2)
	stop(t, h, 1, true)
	drop(t, h, 0, 0)
	number(t, "Yield of none", h.Yield(), -1)
}

// TestFlag holds P20.4 of Flag: whichever queue's flag is set, until that queue is no more.
func TestFlag(t *testing.T) {
	for g := range 4 {
		h := chained(t, 0, 0, 3)
		put(t, h, g, unit(0, greatest-5))
		pick(t, h, 0)
		charge(t, h, 5)
		truth(t, "at the end", h.Flag(), false)
		charge(t, h, 1)
		truth(t, "beyond it", h.Flag(), true)
		ents(t, "held", h, g, unit(0, greatest))
		drop(t, h, g, 0)
		truth(t, "with nobody", h.Flag(), true)
		for low := 3; low >= g && low > 0; low-- {
			truth(t, "Flag", h.Flag(), true)
			errno(t, "Unlink", h.Unlink(low), api.OK)
		}
		truth(t, "the queue is no more", h.Flag(), g == 0)
	}
}

// TestFlagOfGroups holds P20.4 of Flag where a group's entity runs over, and the task's does not.
func TestFlagOfGroups(t *testing.T) {
	h := chained(t, 0, 0, 2)
	put(t, h, 1, unit(0, greatest-5))
	drop(t, h, 1, 0)
	put(t, h, 2, unit(1, 0))
	ents(t, "woken", h, 1, unit(5, greatest-5))
	pick(t, h, 1)
	charge(t, h, 6)
	ents(t, "held", h, 1, unit(5, greatest))
	ents(t, "the task", h, 2, unit(2, 6))
	truth(t, "Flag", h.Flag(), true)
}

// TestAsking holds P20.4: what only asks changes nothing, and tells the same again.
func TestAsking(t *testing.T) {
	h := chained(t, 5, 7, 3)
	put(t, h, 3, unit(0, 0), unit(1, 4))
	put(t, h, 1, unit(2, 9))
	pick(t, h, 0)
	put(t, h, 0, unit(3, -30))
	before := look(h)
	for range 3 {
		same(t, "asked again", look(h), before)
	}
	pick(t, h, 3)
}

// TestQueueIsTheCallers holds R3: what Queue tells may be changed, and stays as it is when the queue changes.
func TestQueueIsTheCallers(t *testing.T) {
	h := chained(t, 0, 0, 1)
	put(t, h, 0, unit(0, 0), unit(1, 5))
	put(t, h, 1, unit(2, 0))
	before := look(h)
	told, again := h.Queue(0), h.Queue(0)
	kept := slices.Clone(again)
	for i := range told {
		told[i] = ent(9, 9, 9, 9)
	}
	told = append(told[:1], unit(8, 8))
	same(t, "a list that was changed", look(h), before)
	pick(t, h, 0)
	charge(t, h, 4)
	drop(t, h, 1, 2)
	if !slices.Equal(again, kept) {
		t.Fatalf("what was told has changed: %v; wanted %v; %v", again, kept, told)
	}
}

// TestApart holds R4: two of them share nothing.
func TestApart(t *testing.T) {
	a, b := chained(t, 0, 0, 1), chained(t, 0, 0, 1)
	put(t, a, 1, unit(0, 3))
	pick(t, a, 0)
	before := look(a)
	put(t, b, 1, unit(1, 9))
	pick(t, b, 1)
	charge(t, b, 7)
	stop(t, b, 1, true)
	drop(t, b, 1, 1)
	errno(t, "Unlink", b.Unlink(1), api.OK)
	same(t, "the other one was asked", look(a), before)
}
