package hier_test

import (
	"slices"
	"testing"

	"dole/api"
	"dole/hier"
)

// TestLinkNamed holds P20.1 of Link at the numbers that may be, and around them.
func TestLinkNamed(t *testing.T) {
	for g := 1; g < groups; g++ {
		h := hier.New(0, 0)
		link(t, h, g, 0)
		holds(t, "linked", h, g, seen{})
		for other := range groups {
			truth(t, "is there", is(h, other), other == 0 || other == g)
		}
	}
	for _, g := range append(noGroups(), 0) {
		h := chained(t, 0, 0, 1)
		refused(t, "Link of what is no group", h, func() api.Errno { return h.Link(g, 0) }, api.ErrArg)
		refused(t, "Link of it within a group", h, func() api.Errno { return h.Link(g, 1) }, api.ErrArg)
	}
	for _, parent := range append(noGroups(), 2, 3, 31) {
		h := chained(t, 0, 0, 1)
		refused(t, "Link within what isn't there", h, func() api.Errno { return h.Link(2, parent) }, api.ErrArg)
		truth(t, "is there", is(h, 2), false)
	}
}

// TestLinkInTurn holds the order of Link's errors: a number that may not be, one that is linked, a depth.
func TestLinkInTurn(t *testing.T) {
	h := chained(t, 0, 0, deep)
	for _, row := range []struct {
		g, parent int
		want      api.Errno
	}{
		{1, 9, api.ErrArg}, {1, -1, api.ErrArg}, {1, 32, api.ErrArg}, {0, 8, api.ErrArg}, {32, 8, api.ErrArg}, {9, 9, api.ErrArg}, {9, 10, api.ErrArg},
		{1, 0, api.ErrBusy}, {1, 1, api.ErrBusy}, {1, 2, api.ErrBusy}, {1, 8, api.ErrBusy}, {8, 7, api.ErrBusy}, {8, 8, api.ErrBusy},
		{9, 8, api.ErrDeep}, {31, 8, api.ErrDeep},
		{9, 7, api.OK}, {31, 9, api.ErrDeep}, {10, 6, api.OK}, {31, 10, api.OK},
	} {
		if row.want == api.OK {
			link(t, h, row.g, row.parent)
			continue
		}
		refused(t, "Link", h, func() api.Errno { return h.Link(row.g, row.parent) }, row.want)
	}
}

// TestLinkAll holds P20.1 of as many groups as there may be, side by side and below each other.
func TestLinkAll(t *testing.T) {
	flat, rows := hier.New(0, 0), hier.New(0, 0)
	for g := 1; g < groups; g++ {
		link(t, flat, g, 0)
		// Four rows, of 8, 8, 8 and 7.
		link(t, rows, g, g-1-btoi(g%deep == 1)*(g-1))
	}
	for _, h := range []*hier.Hier{flat, rows} {
		for g := range groups {
			put(t, h, g, unit(g, 0), unit(tasks-1-g, 0))
		}
		for g := 1; g < groups; g++ {
			truth(t, "On", h.On(g), true)
			errno(t, "Link", h.Link(g, 0), api.ErrBusy)
		}
	}
	number(t, "the root's load", flat.Load(0), 33*1024)
	number(t, "the root's load", rows.Load(0), 6*1024)
	for g := 1; g < groups; g++ {
		number(t, "a load", flat.Load(g), 2*1024)
		number(t, "a load in a row", rows.Load(g), uint64(3-btoi(g%deep == 0 || g == groups-1))*1024)
	}
}

func btoi(is bool) int {
	if is {
		return 1
	}
	return 0
}

// TestFull holds P20.2 of a queue with as many tasks and groups as there may be: it has room for them.
func TestFull(t *testing.T) {
	h := hier.New(0, 0)
	for n := range tasks {
		put(t, h, 0, unit(n, 0))
	}
	for g := 1; g < groups; g++ {
		link(t, h, g, 0)
		put(t, h, g, unit(0, 0))
	}
	number(t, "the root's queue", len(h.Queue(0)), tasks+groups-1)
	for g := 1; g < groups; g++ {
		truth(t, "On", h.On(g), true)
	}
	for n := range tasks {
		refused(t, "Put again", h, func() api.Errno { return h.Put(0, unit(n, 1)) }, api.ErrBusy)
	}
}

// TestLinkAnew holds P20.1 of a group that was there: it is as at first, whatever it had.
func TestLinkAnew(t *testing.T) {
	h := hier.New(0, 0)
	link(t, h, 1, 0)
	errno(t, "Weigh", h.Weigh(1, 3), api.OK)
	put(t, h, 1, unit(5, greatest-3))
	pick(t, h, 5)
	charge(t, h, 4)
	truth(t, "Flag", h.Flag(), true)
	ents(t, "charged", h, 0, ent(3, 3, 1365, 1))
	number(t, "Min", h.Min(1), greatest)
	drop(t, h, 1, 5)
	stop(t, h, 1, true)
	errno(t, "Unlink", h.Unlink(1), api.OK)
	holds(t, "unlinked", h, 1, seen{})
	truth(t, "Flag of a queue that is no more", h.Flag(), false)
	link(t, h, 1, 0)
	holds(t, "linked anew", h, 1, seen{})
	put(t, h, 1, unit(7, 0))
	// The root's Min is where the entity that it had stood.
	holds(t, "linked anew, and put", h, 0, seen{[]api.Ent{unit(3, 1365)}, 1365, 1024, false, false})
	holds(t, "linked anew, and put", h, 1, seen{[]api.Ent{unit(14, 0)}, 0, 1024, true, false})
}

// TestUnlink holds P20.1 of Unlink: what isn't linked, a queue with somebody, one that is linked within it.
func TestUnlink(t *testing.T) {
	h := chained(t, 0, 0, 3)
	for _, g := range append(noGroups(), 0, 4, 31) {
		refused(t, "Unlink of what isn't linked", h, func() api.Errno { return h.Unlink(g) }, api.ErrArg)
	}
	for _, g := range []int{1, 2} {
		refused(t, "Unlink of one with another within it", h, func() api.Errno { return h.Unlink(g) }, api.ErrBusy)
	}
	put(t, h, 3, unit(0, 0))
	for _, g := range []int{1, 2, 3} {
		refused(t, "Unlink of one with somebody", h, func() api.Errno { return h.Unlink(g) }, api.ErrBusy)
	}
	stop(t, h, 3, true)
	for _, g := range []int{1, 2, 3} {
		refused(t, "Unlink beside a stopped one", h, func() api.Errno { return h.Unlink(g) }, api.ErrBusy)
	}
	drop(t, h, 3, 0)
	for _, g := range []int{3, 2, 1} {
		for up := 1; up < g; up++ {
			refused(t, "Unlink of one above", h, func() api.Errno { return h.Unlink(up) }, api.ErrBusy)
		}
		errno(t, "Unlink", h.Unlink(g), api.OK)
		truth(t, "is there", is(h, g), false)
		refused(t, "Unlink again", h, func() api.Errno { return h.Unlink(g) }, api.ErrArg)
		refused(t, "Link within it", h, func() api.Errno { return h.Link(9, g) }, api.ErrArg)
	}
	truth(t, "the root is there", is(h, 0), true)
}

// TestUnlinkOne holds P20.1: only the one is unlinked, and its brothers stay.
func TestUnlinkOne(t *testing.T) {
	h := hier.New(0, 0)
	for g := 1; g <= 3; g++ {
		link(t, h, g, 0)
	}
	put(t, h, 1, unit(1, 0))
	put(t, h, 0, unit(0, 0))
	errno(t, "Unlink", h.Unlink(2), api.OK)
	for g := range 4 {
		truth(t, "is there", is(h, g), g != 2)
	}
	ents(t, "the root's", h, 0, unit(0, 0), unit(3, 0))
}

// TestMoveNamed holds P20.1 of Move: what isn't linked, and where nothing is.
func TestMoveNamed(t *testing.T) {
	h := chained(t, 0, 0, 2)
	for _, g := range append(noGroups(), 0, 3, 31) {
		for _, parent := range []int{0, 1, 2, 3, -1} {
			refused(t, "Move of what isn't linked", h, func() api.Errno { return h.Move(g, parent) }, api.ErrArg)
		}
		if g != 0 {
			refused(t, "Move within what isn't there", h, func() api.Errno { return h.Move(1, g) }, api.ErrArg)
			refused(t, "Move of it within itself", h, func() api.Errno { return h.Move(g, g) }, api.ErrArg)
		}
	}
	move(t, h, 2, 0)
	put(t, h, 2, unit(0, 0))
	ents(t, "the root's", h, 0, unit(5, 0))
	ents(t, "where it was", h, 1)
	refused(t, "Move of what has somebody", h, func() api.Errno { return h.Move(2, 1) }, api.ErrBusy)
}

// TestMoveInTurn holds the order of Move's errors: within itself, somebody in it, a depth.
func TestMoveInTurn(t *testing.T) {
	h := chained(t, 0, 0, 4)
	for g := 5; g <= 10; g++ {
		link(t, h, g, (g-1)*btoi(g > 5))
	}
	// 1 to 4 in a row, and 5 to 10: the depth of 10 is 6.
	loops := func(want api.Errno) {
		t.Helper()
		for g := 1; g <= 4; g++ {
			for to := g; to <= 4; to++ {
				refused(t, "Move within itself", h, func() api.Errno { return h.Move(g, to) }, want)
			}
		}
	}
	loops(api.ErrLoop)
	refused(t, "Move too deep", h, func() api.Errno { return h.Move(1, 10) }, api.ErrDeep)
	put(t, h, 4, unit(0, 0))
	loops(api.ErrLoop)
	for g := 1; g <= 4; g++ {
		refused(t, "Move with somebody", h, func() api.Errno { return h.Move(g, 10) }, api.ErrBusy)
		refused(t, "Move with somebody", h, func() api.Errno { return h.Move(g, 0) }, api.ErrBusy)
	}
	stop(t, h, 4, true)
	for g := 1; g <= 4; g++ {
		refused(t, "Move with somebody, stopped", h, func() api.Errno { return h.Move(g, 10) }, api.ErrBusy)
		refused(t, "Move with somebody, stopped", h, func() api.Errno { return h.Move(g, 0) }, api.ErrBusy)
	}
	drop(t, h, 4, 0)
	refused(t, "Move too deep", h, func() api.Errno { return h.Move(1, 10) }, api.ErrDeep)
	move(t, h, 4, 10)
	link(t, h, 11, 4)
	refused(t, "Link below the deepest", h, func() api.Errno { return h.Link(12, 11) }, api.ErrDeep)
}

// TestMoveDeep holds P20.1 of Move: how deep what is moved may come, for rows of each length and each depth.
func TestMoveDeep(t *testing.T) {
	for down := range deep + 1 {
		for row := 1; row <= deep; row++ {
			h := chained(t, 0, 0, down)
			for i := range row {
				link(t, h, 20+i, (19+i)*btoi(i > 0))
			}
			if down+row > deep {
				refused(t, "Move too deep", h, func() api.Errno { return h.Move(20, down) }, api.ErrDeep)
				continue
			}
			move(t, h, 20, down)
			put(t, h, 19+row, unit(0, 0))
			for g := 1; g <= down; g++ {
				truth(t, "On above", h.On(g), true)
			}
			for i := range row {
				truth(t, "On in the row", h.On(20+i), true)
			}
			want := api.OK
			if down+row == deep {
				want = api.ErrDeep
			}
			errno(t, "Link behind the Move", h.Link(19, 19+row), want)
		}
	}
}

// TestMoveTakesAlong holds P20.1: all within a group go along, all others stay; a queue with somebody above, or where it goes, is no fault.
func TestMoveTakesAlong(t *testing.T) {
	h := hier.New(0, 0)
	for _, l := range [][2]int{{1, 0}, {2, 1}, {3, 2}, {4, 2}, {5, 0}, {6, 5}, {7, 1}} {
		link(t, h, l[0], l[1])
	}
	put(t, h, 1, unit(10, 0))
	put(t, h, 6, unit(11, 0))
	move(t, h, 2, 6)
	put(t, h, 3, unit(12, 0))
	put(t, h, 4, unit(13, 0))
	put(t, h, 7, unit(14, 0))
	ents(t, "0", h, 0, unit(3, 0), unit(11, 0))
	ents(t, "1", h, 1, unit(15, 0), unit(20, 0))
	ents(t, "2", h, 2, unit(7, 0), unit(9, 0))
	ents(t, "5", h, 5, unit(13, 0))
	ents(t, "6", h, 6, unit(5, 0), unit(22, 0))
}

// ahead is, without credit, with a group 1 within 2, whose entity was so far ahead of 2's Min as its last task was dropped.
func ahead(t *testing.T, from int64, off uint64) *hier.Hier {
	t.Helper()
	h := hier.New(0, 0)
	link(t, h, 2, 0)
	link(t, h, 1, 2)
	put(t, h, 2, unit(20, from))
	put(t, h, 1, unit(10, 0))
	ents(t, "at Min", h, 2, unit(3, from), unit(40, from))
	pick(t, h, 10)
	charge(t, h, off)
	number(t, "Min", h.Min(2), from)
	drop(t, h, 1, 10)
	return h
}

// TestMoveV holds P20.1 of what Move makes of an entity's V: as far behind the one Min as it was behind the other one, held to int64's ends, with no flag.
func TestMoveV(t *testing.T) {
	for _, row := range []struct {
		name   string
		from   int64
		off    uint64
		to, is int64
	}{
		{"up", 20, 10, 100, 110}, {"down", 100, 10, 20, 30}, {"from 0", 0, 10, 7, 17}, {"to 0", 7, 10, 0, 10}, {"at Min", 7, 0, 30, 30},
		{"to the end", 20, 10, greatest - 10, greatest}, {"one below the end", 20, 10, greatest - 11, greatest - 1},
		{"over the end", 20, 10, greatest - 9, greatest}, {"far over the end", 20, 1000, greatest, greatest},
		{"from a great Min", greatest - 1000, 999, 5, 1004},
	} {
		h := ahead(t, row.from, row.off)
		link(t, h, 3, 0)
		put(t, h, 3, unit(30, row.to))
		move(t, h, 1, 3)
		put(t, h, 1, unit(10, 0))
		// At one V the lesser Id is ahead: the group's is 3.
		l := []api.Ent{unit(60, row.to), unit(3, row.is)}
		if row.is == row.to {
			slices.Reverse(l)
		}
		ents(t, row.name, h, 3, l...)
		truth(t, "Flag", h.Flag(), false)
	}
}

// TestMoveBehind holds P20.1 of an entity behind both Mins: it stays as far behind, as the credit shows.
func TestMoveBehind(t *testing.T) {
	for _, row := range []struct{ from, to, credit, is int64 }{
		{100, 300, 1000, 200}, {100, 40, 1000, -60}, {100, 300, 100, 200}, {100, 300, 99, 201}, {100, 300, 0, 300}, {100, 40, 99, -59}, {100, 0, 1000, -100},
	} {
		h := hier.New(row.credit, 0)
		for g := 1; g <= 3; g++ {
			link(t, h, g, 0)
		}
		move(t, h, 1, 2)
		put(t, h, 2, unit(20, row.from))
		put(t, h, 3, unit(30, row.to))
		// Its V is 0 still: it never stood anywhere.
		move(t, h, 1, 3)
		put(t, h, 1, unit(10, 0))
		ents(t, "behind", h, 3, unit(3, row.is), unit(60, row.to))
	}
}

// TestMoveToWhereItIs holds P20.1: a Move to the one within which it is, changes nothing, and brings nothing too deep.
func TestMoveToWhereItIs(t *testing.T) {
	h := chained(t, 0, 0, deep)
	put(t, h, 3, unit(0, 50))
	for _, g := range []int{4, 5, 8} {
		before := look(h)
		move(t, h, g, g-1)
		same(t, "Move to where it is", look(h), before)
	}
	h = ahead(t, 20, 10)
	move(t, h, 1, 2)
	put(t, h, 1, unit(10, 0))
	ents(t, "Move to where it is", h, 2, unit(40, 20), unit(3, 30))
}

// TestMoveKeeps holds P20.1: what is moved keeps its weight, what is left over, whether it is stopped, and its queue's Min.
func TestMoveKeeps(t *testing.T) {
	h := hier.New(0, 0)
	link(t, h, 1, 0)
	link(t, h, 2, 0)
	errno(t, "Weigh", h.Weigh(1, 3000), api.OK)
	put(t, h, 1, unit(10, 77))
	pick(t, h, 10)
	charge(t, h, 1)
	drop(t, h, 1, 10)
	stop(t, h, 1, true)
	move(t, h, 1, 2)
	holds(t, "moved", h, 1, seen{nil, 78, 0, false, true})
	put(t, h, 1, unit(10, 80))
	holds(t, "put while stopped", h, 1, seen{[]api.Ent{unit(20, 80)}, 80, 1024, false, true})
	stop(t, h, 1, false)
	ents(t, "let go", h, 2, ent(3, 3000, 0, 1024))
}
