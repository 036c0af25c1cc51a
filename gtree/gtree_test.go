package gtree_test

import (
	"math"
	"slices"
	"testing"

	"dole/api"
	"dole/gtree"
)

// By the chapter's words.
const (
	room = 32
	deep = 8
)

func at(index, gen int) api.Handle { return api.Handle{Index: index, Gen: gen} }

func root() api.Handle { return at(0, 0) }

// first are handles of groups that were laid into places that were never freed.
func first(places ...int) []api.Handle {
	var out []api.Handle
	for _, i := range places {
		out = append(out, at(i, 0))
	}
	return out
}

func errno(t *testing.T, what string, got, want api.Errno) {
	t.Helper()
	if got != want {
		t.Fatalf("%s: %d; wanted %d", what, got, want)
	}
}

// create holds Create to a handle that was worked out apart from the program.
func create(t *testing.T, g *gtree.Tree, parent, want api.Handle) {
	t.Helper()
	if h, e := g.Create(parent); h != want || e != api.OK {
		t.Fatalf("Create(%v): %v, %d; wanted %v", parent, h, e, want)
	}
}

func createFails(t *testing.T, g *gtree.Tree, parent api.Handle, want api.Errno) {
	t.Helper()
	before := look(g)
	if h, e := g.Create(parent); h != root() || e != want {
		t.Fatalf("Create(%v): %v, %d; wanted the error %d", parent, h, e, want)
	}
	same(t, "a Create that was refused", look(g), before)
}

func destroy(t *testing.T, g *gtree.Tree, h api.Handle) {
	t.Helper()
	errno(t, "Destroy", g.Destroy(h), api.OK)
}

func destroyFails(t *testing.T, g *gtree.Tree, h api.Handle, want api.Errno) {
	t.Helper()
	before := look(g)
	if e := g.Destroy(h); e != want {
		t.Fatalf("Destroy(%v): %d; wanted %d", h, e, want)
	}
	same(t, "a Destroy that was refused", look(g), before)
}

func move(t *testing.T, g *gtree.Tree, h, parent api.Handle) {
	t.Helper()
	if e := g.Move(h, parent); e != api.OK {
		t.Fatalf("Move(%v, %v): %d", h, parent, e)
	}
}

func moveFails(t *testing.T, g *gtree.Tree, h, parent api.Handle, want api.Errno) {
	t.Helper()
	before := look(g)
	if e := g.Move(h, parent); e != want {
		t.Fatalf("Move(%v, %v): %d; wanted %d", h, parent, e, want)
	}
	same(t, "a Move that was refused", look(g), before)
}

// seen is what a tree tells of one group.
type seen struct {
	h, parent   api.Handle
	parentE     api.Errno
	depth       int
	path        []int
	kids, below []api.Handle
}

func look(g *gtree.Tree) []seen {
	var out []seen
	for _, h := range g.All() {
		s := seen{h: h, kids: g.Kids(h), below: g.Below(h)}
		s.parent, s.parentE = g.Parent(h)
		s.depth, _ = g.Depth(h)
		s.path, _ = g.Path(h)
		out = append(out, s)
	}
	return out
}

func same(t *testing.T, what string, got, want []seen) {
	t.Helper()
	if !slices.EqualFunc(got, want, func(a, b seen) bool {
		return a.h == b.h && a.parent == b.parent && a.parentE == b.parentE && a.depth == b.depth &&
			slices.Equal(a.path, b.path) && slices.Equal(a.kids, b.kids) && slices.Equal(a.below, b.below)
	}) {
		t.Fatalf("%s changed the tree: %v; it was %v", what, got, want)
	}
}

func groups(t *testing.T, what string, got []api.Handle, want ...api.Handle) {
	t.Helper()
	if !slices.Equal(got, want) {
		t.Fatalf("%s: %v; wanted %v", what, got, want)
	}
}

func path(t *testing.T, g *gtree.Tree, h api.Handle, want ...int) {
	t.Helper()
	if l, e := g.Path(h); !slices.Equal(l, want) || e != api.OK {
		t.Fatalf("Path(%v): %v, %d; wanted %v", h, l, e, want)
	}
	if d, e := g.Depth(h); d != len(want) || e != api.OK {
		t.Fatalf("Depth(%v): %d, %d; wanted %d", h, d, e, len(want))
	}
}

func parent(t *testing.T, g *gtree.Tree, h, want api.Handle) {
	t.Helper()
	if p, e := g.Parent(h); p != want || e != api.OK {
		t.Fatalf("Parent(%v): %v, %d; wanted %v", h, p, e, want)
	}
}

func under(t *testing.T, g *gtree.Tree, h, top api.Handle, want bool) {
	t.Helper()
	if got := g.Under(h, top); got != want {
		t.Fatalf("Under(%v, %v): %v", h, top, got)
	}
}

// chain is a tree of the groups 1 to n, each within the one ahead.
func chain(t *testing.T, n int) *gtree.Tree {
	t.Helper()
	g := gtree.New()
	for i := range n {
		create(t, g, at(i, 0), at(i+1, 0))
	}
	return g
}

// crowd lays groups within the root till there is no room; next is the first place that was never laid into.
func crowd(t *testing.T, g *gtree.Tree, next int) {
	t.Helper()
	for i := next; i < room; i++ {
		create(t, g, root(), at(i, 0))
	}
}

// off are handles that name nothing in a tree of the groups 0 to n-1, of which none was ever freed.
func off(n int) []api.Handle {
	var out []api.Handle
	for _, i := range []int{0, 1, n / 2, n - 1} {
		for _, gen := range []int{1, -1, 2, -2, 256, 1 << 16, 1 << 32, -1 << 32, math.MaxInt, math.MinInt} {
			out = append(out, at(i, gen))
		}
	}
	for _, i := range []int{-1, -2, -n, -room, n, n + 1, room, room + 1, 2 * room, 256, 4096, 1 << 16, 1 << 32, 1<<32 + 1, math.MaxInt, math.MinInt, math.MinInt + 1} {
		for _, gen := range []int{0, 1, -1, math.MaxInt, math.MinInt} {
			if gen != 0 || i < 0 || i >= n {
				out = append(out, at(i, gen))
			}
		}
	}
	return out
}

// nothing holds all calls at a handle that names nothing, whatever group stands beside it in the call.
func nothing(t *testing.T, g *gtree.Tree, h api.Handle) {
	t.Helper()
	before := look(g)
	if made, e := g.Create(h); made != root() || e != api.ErrHandle {
		t.Fatalf("Create(%v), which names nothing: %v, %d", h, made, e)
	}
	errno(t, "Destroy of what names nothing", g.Destroy(h), api.ErrHandle)
	if p, e := g.Parent(h); p != root() || e != api.ErrHandle {
		t.Fatalf("Parent(%v), which names nothing: %v, %d", h, p, e)
	}
	if d, e := g.Depth(h); d != 0 || e != api.ErrHandle {
		t.Fatalf("Depth(%v), which names nothing: %d, %d", h, d, e)
	}
	if l, e := g.Path(h); len(l) != 0 || e != api.ErrHandle {
		t.Fatalf("Path(%v), which names nothing: %v, %d", h, l, e)
	}
	if kids, below := g.Kids(h), g.Below(h); len(kids) != 0 || len(below) != 0 {
		t.Fatalf("Kids and Below(%v), which names nothing: %v, %v", h, kids, below)
	}
	for _, other := range append(g.All(), h) {
		for _, pair := range [][2]api.Handle{{h, other}, {other, h}} {
			errno(t, "Move of, or to, what names nothing", g.Move(pair[0], pair[1]), api.ErrHandle)
			under(t, g, pair[0], pair[1], false)
		}
	}
	same(t, "a call at what names nothing", look(g), before)
}

// TestExamples holds P10.1 and P10.2 to the chapter's examples.
func TestExamples(t *testing.T) {
	g := gtree.New()
	create(t, g, root(), at(1, 0))
	create(t, g, at(1, 0), at(2, 0))
	path(t, g, at(2, 0), 1, 2)
	moveFails(t, g, at(1, 0), at(2, 0), api.ErrLoop)
	destroyFails(t, g, at(1, 0), api.ErrBusy)
}

// TestRoot holds P10.1 and P10.2 of the root alone.
func TestRoot(t *testing.T) {
	g := gtree.New()
	groups(t, "All", g.All(), root())
	groups(t, "Kids", g.Kids(root()))
	groups(t, "Below", g.Below(root()), root())
	path(t, g, root())
	under(t, g, root(), root(), true)
	if p, e := g.Parent(root()); p != root() || e != api.ErrNone {
		t.Errorf("Parent of the root: %v, %d", p, e)
	}
	destroyFails(t, g, root(), api.ErrArg)
	moveFails(t, g, root(), root(), api.ErrArg)
	for _, h := range off(1) {
		nothing(t, g, h)
	}
	create(t, g, root(), at(1, 0))
}

// TestSmall holds P10.2 of a tree whose groups do not stand by their depths: 1 and 5 within the root, 4 and 3 within 1, 2 within 5, 6 within 3.
func TestSmall(t *testing.T) {
	g := gtree.New()
	create(t, g, root(), at(1, 0))
	create(t, g, root(), at(2, 0))
	create(t, g, at(1, 0), at(3, 0))
	create(t, g, at(1, 0), at(4, 0))
	create(t, g, root(), at(5, 0))
	create(t, g, at(3, 0), at(6, 0))
	move(t, g, at(2, 0), at(5, 0))

	groups(t, "All", g.All(), first(0, 1, 2, 3, 4, 5, 6)...)
	for i, want := range [][]int{{1, 5}, {3, 4}, {}, {6}, {}, {2}, {}} {
		groups(t, "Kids", g.Kids(at(i, 0)), first(want...)...)
	}
	belows := [][]int{{0, 1, 2, 3, 4, 5, 6}, {1, 3, 4, 6}, {2}, {3, 6}, {4}, {2, 5}, {6}}
	for i, want := range belows {
		groups(t, "Below", g.Below(at(i, 0)), first(want...)...)
		for k := range belows {
			under(t, g, at(k, 0), at(i, 0), slices.Contains(want, k))
		}
	}
	for i, want := range [][]int{{}, {1}, {5, 2}, {1, 3}, {1, 4}, {5}, {1, 3, 6}} {
		path(t, g, at(i, 0), want...)
	}
	for i, want := range []int{0, 5, 1, 1, 0, 3} {
		parent(t, g, at(i+1, 0), at(want, 0))
	}
	if p, e := g.Parent(root()); p != root() || e != api.ErrNone {
		t.Errorf("Parent of the root: %v, %d", p, e)
	}
	for _, h := range off(7) {
		nothing(t, g, h)
	}
}

// TestDeepest holds P10.1's ErrDeep of Create: a group of the depth 8 is, one of 9 is not.
func TestDeepest(t *testing.T) {
	g := chain(t, deep)
	path(t, g, at(deep, 0), 1, 2, 3, 4, 5, 6, 7, 8)
	createFails(t, g, at(deep, 0), api.ErrDeep)
	createFails(t, g, at(deep, 0), api.ErrDeep)
	// What was refused has used up no place.
	create(t, g, at(deep-1, 0), at(deep+1, 0))
	path(t, g, at(deep+1, 0), 1, 2, 3, 4, 5, 6, 7, 9)
	createFails(t, g, at(deep+1, 0), api.ErrDeep)
	for i := range deep {
		create(t, g, at(i, 0), at(deep+2+i, 0))
	}
}

// TestFull holds P10.1's ErrFull: 32 groups, the root among them, and none more, wherever it would be.
func TestFull(t *testing.T) {
	g := chain(t, 3)
	crowd(t, g, 4)
	if n := len(g.All()); n != room {
		t.Fatalf("%d groups; wanted %d", n, room)
	}
	for _, h := range g.All() {
		createFails(t, g, h, api.ErrFull)
	}
	destroyFails(t, g, at(1, 0), api.ErrBusy)
	createFails(t, g, root(), api.ErrFull)
	// A place that was freed is one again, and takes the next Gen.
	destroy(t, g, at(17, 0))
	createFails(t, g, at(17, 0), api.ErrHandle)
	create(t, g, at(3, 0), at(17, 1))
	createFails(t, g, root(), api.ErrFull)
	path(t, g, at(17, 1), 1, 2, 3, 17)
	nothing(t, g, at(17, 0))
}

// TestCreateOrder holds that of Create's errors the one that is named first is answered (R1).
func TestCreateOrder(t *testing.T) {
	g := chain(t, deep)
	crowd(t, g, deep+1)
	createFails(t, g, at(deep, 0), api.ErrDeep)
	createFails(t, g, at(deep-1, 0), api.ErrFull)
	createFails(t, g, root(), api.ErrFull)
	for _, h := range off(room) {
		createFails(t, g, h, api.ErrHandle)
	}
}

// TestComeBack holds that groups have their handles as chapter 5's pool tells them: the place that was freed last comes back first, with the next Gen.
func TestComeBack(t *testing.T) {
	g := gtree.New()
	for i := range 5 {
		create(t, g, root(), at(i+1, 0))
	}
	for _, i := range []int{2, 5, 3} {
		destroy(t, g, at(i, 0))
	}
	groups(t, "All", g.All(), first(0, 1, 4)...)
	create(t, g, at(4, 0), at(3, 1))
	create(t, g, at(3, 1), at(5, 1))
	destroyFails(t, g, at(3, 1), api.ErrBusy)
	destroy(t, g, at(5, 1))
	create(t, g, at(1, 0), at(5, 2))
	create(t, g, at(5, 2), at(2, 1))
	create(t, g, root(), at(6, 0))
	groups(t, "All", g.All(), root(), at(1, 0), at(2, 1), at(3, 1), at(4, 0), at(5, 2), at(6, 0))
	groups(t, "Kids", g.Kids(root()), at(1, 0), at(4, 0), at(6, 0))
	groups(t, "Below", g.Below(at(1, 0)), at(1, 0), at(2, 1), at(5, 2))
	path(t, g, at(2, 1), 1, 5, 2)
	for _, h := range []api.Handle{at(2, 0), at(3, 0), at(5, 0), at(5, 1), at(2, 2), at(5, 3), at(0, 1), at(1, 1), at(4, -1)} {
		nothing(t, g, h)
	}
}

// TestDestroy holds P10.1's Destroy: what is gone names nothing, and lets the one within which it was be free to go.
func TestDestroy(t *testing.T) {
	g := chain(t, 3)
	create(t, g, at(1, 0), at(4, 0))
	for _, i := range []int{1, 2} {
		destroyFails(t, g, at(i, 0), api.ErrBusy)
	}
	// The root, with groups within it: what is named first is ErrArg.
	destroyFails(t, g, root(), api.ErrArg)
	destroy(t, g, at(3, 0))
	nothing(t, g, at(3, 0))
	destroy(t, g, at(2, 0))
	destroyFails(t, g, at(2, 0), api.ErrHandle)
	destroyFails(t, g, at(1, 0), api.ErrBusy)
	groups(t, "Kids", g.Kids(at(1, 0)), at(4, 0))
	destroy(t, g, at(4, 0))
	destroy(t, g, at(1, 0))
	groups(t, "All", g.All(), root())
	groups(t, "Below", g.Below(root()), root())
	destroyFails(t, g, root(), api.ErrArg)
	create(t, g, root(), at(1, 1))
}

// TestMovedAway holds that a group from which all was moved away may go, and one to which something was moved may not.
func TestMovedAway(t *testing.T) {
	g := chain(t, 2)
	create(t, g, root(), at(3, 0))
	move(t, g, at(2, 0), at(3, 0))
	groups(t, "Kids", g.Kids(at(1, 0)))
	groups(t, "Kids", g.Kids(at(3, 0)), at(2, 0))
	destroyFails(t, g, at(3, 0), api.ErrBusy)
	destroy(t, g, at(1, 0))
	path(t, g, at(2, 0), 3, 2)
	move(t, g, at(2, 0), root())
	destroy(t, g, at(3, 0))
	groups(t, "Kids", g.Kids(root()), at(2, 0))
	path(t, g, at(2, 0), 2)
}

// TestMoveOrder holds that of Move's errors the one that is named first is answered (R1).
func TestMoveOrder(t *testing.T) {
	g := chain(t, deep)
	create(t, g, root(), at(9, 0))
	for _, h := range off(10) {
		moveFails(t, g, root(), h, api.ErrHandle)
		moveFails(t, g, h, root(), api.ErrHandle)
		moveFails(t, g, at(1, 0), h, api.ErrHandle)
		moveFails(t, g, h, at(deep, 0), api.ErrHandle)
	}
	// The root is within none: neither a loop nor a depth is asked for.
	for _, h := range g.All() {
		moveFails(t, g, root(), h, api.ErrArg)
	}
	// Below itself it would be too deep as well.
	for i := 1; i <= deep; i++ {
		for k := i; k <= deep; k++ {
			moveFails(t, g, at(i, 0), at(k, 0), api.ErrLoop)
		}
	}
	moveFails(t, g, at(9, 0), at(deep, 0), api.ErrDeep)
	move(t, g, at(9, 0), at(deep-1, 0))
}

// TestMoveDeep holds P10.1's ErrDeep of Move: each length of chain, moved to each depth.
func TestMoveDeep(t *testing.T) {
	for long := 1; long <= deep; long++ {
		for to := 0; to <= deep; to++ {
			g := chain(t, to)
			within, top := root(), at(to+1, 0)
			for i := range long {
				create(t, g, within, at(to+1+i, 0))
				within = at(to+1+i, 0)
			}
			if to+long > deep {
				moveFails(t, g, top, at(to, 0), api.ErrDeep)
				continue
			}
			move(t, g, top, at(to, 0))
			if d, e := g.Depth(within); d != to+long || e != api.OK {
				t.Fatalf("Depth of the last one of %d, moved to the depth %d: %d, %d", long, to, d, e)
			}
		}
	}
}

// TestMoveDeepest holds that the deepest one below is asked, in whatever branch it is, and none that is not below.
func TestMoveDeepest(t *testing.T) {
	for branch := range 3 {
		g := chain(t, 6)
		create(t, g, root(), at(7, 0))
		for i := range 3 {
			create(t, g, at(7, 0), at(8+i, 0))
		}
		// One branch goes a step deeper than the other two.
		create(t, g, at(8+branch, 0), at(11, 0))
		moveFails(t, g, at(7, 0), at(6, 0), api.ErrDeep)
		move(t, g, at(7, 0), at(5, 0))
		path(t, g, at(11, 0), 1, 2, 3, 4, 5, 7, 8+branch, 11)
	}
	g := chain(t, deep)
	create(t, g, root(), at(9, 0))
	create(t, g, at(9, 0), at(10, 0))
	// Others are as deep as may be, but the two that are moved are not.
	moveFails(t, g, at(9, 0), at(7, 0), api.ErrDeep)
	move(t, g, at(9, 0), at(6, 0))
	path(t, g, at(10, 0), 1, 2, 3, 4, 5, 6, 9, 10)
	// From as deep as may be it goes up, and to another one of the same depth.
	move(t, g, at(8, 0), at(9, 0))
	path(t, g, at(8, 0), 1, 2, 3, 4, 5, 6, 9, 8)
	move(t, g, at(9, 0), root())
	path(t, g, at(8, 0), 9, 8)
}

// TestMoveSame holds that a group may be moved to where it is: nothing is changed, as deep as it all may be.
func TestMoveSame(t *testing.T) {
	g := chain(t, deep)
	before := look(g)
	for i := range deep {
		move(t, g, at(i+1, 0), at(i, 0))
	}
	same(t, "Move to where it is", look(g), before)
}

// TestMoveFull holds that Move needs no room.
func TestMoveFull(t *testing.T) {
	g := gtree.New()
	crowd(t, g, 1)
	for i := 2; i < room; i++ {
		move(t, g, at(i, 0), at(1, 0))
	}
	groups(t, "Kids", g.Kids(root()), at(1, 0))
	if kids := g.Kids(at(1, 0)); len(kids) != room-2 {
		t.Errorf("Kids: %v", kids)
	}
	createFails(t, g, root(), api.ErrFull)
}

// TestNil holds P10.2 and P1 of a tree that is nil; one that is zero is not asked anything (R5), but does not panic either.
func TestNil(t *testing.T) {
	for _, g := range []*gtree.Tree{nil, {}} {
		for _, h := range append(off(3), first(0, 1, 2, 31)...) {
			nothing(t, g, h)
		}
		groups(t, "All", g.All())
	}
}

// TestOwn holds R3: what is told is the caller's own.
func TestOwn(t *testing.T) {
	g := chain(t, 4)
	create(t, g, at(1, 0), at(5, 0))
	before := look(g)
	for range 2 {
		for _, h := range g.All() {
			spoil(g.Kids(h), at(-1, -1))
			spoil(g.Below(h), at(-1, -1))
			l, _ := g.Path(h)
			spoil(l, -1)
		}
		spoil(g.All(), at(-1, -1))
		same(t, "the caller", look(g), before)
	}
	one, two := g.Below(at(1, 0)), g.Below(at(1, 0))
	spoil(one, at(-1, -1))
	groups(t, "Below", two, first(1, 2, 3, 4, 5)...)
}

// spoil writes over a list, and over what room it has behind it.
func spoil[T any](l []T, x T) {
	l = l[:cap(l)]
	for i := range l {
		l[i] = x
	}
}

// TestApart holds R4: two trees share nothing.
func TestApart(t *testing.T) {
	one := chain(t, 5)
	two := gtree.New()
	groups(t, "All", two.All(), root())
	create(t, two, root(), at(1, 0))
	destroy(t, two, at(1, 0))
	create(t, two, root(), at(1, 1))
	path(t, one, at(5, 0), 1, 2, 3, 4, 5)
	nothing(t, one, at(1, 1))
	nothing(t, two, at(1, 0))
}
