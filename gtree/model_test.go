package gtree_test

import (
	"slices"
	"testing"

	"dole/api"
	"dole/gtree"
)

// model is groups by the chapter's words alone: it goes from the root down, where the program goes up.
type model struct {
	kids  map[api.Handle][]api.Handle // of those that there are, in whatever order
	frees []int                       // places, in the order in which they were freed
	told  []api.Handle                // all handles that there ever were
}

func newModel() *model {
	return &model{kids: map[api.Handle][]api.Handle{root(): nil}, told: []api.Handle{root()}}
}

func (m *model) is(h api.Handle) bool {
	_, is := m.kids[h]
	return is
}

func byPlace(l []api.Handle) []api.Handle {
	return slices.SortedFunc(slices.Values(l), func(a, b api.Handle) int { return a.Index - b.Index })
}

func (m *model) all() []api.Handle {
	var out []api.Handle
	for h := range m.kids {
		out = append(out, h)
	}
	return byPlace(out)
}

func (m *model) below(h api.Handle) []api.Handle {
	if !m.is(h) {
		return nil
	}
	out := []api.Handle{h}
	for _, k := range m.kids[h] {
		out = append(out, m.below(k)...)
	}
	return byPlace(out)
}

// way is all groups from one down to another, both among them; none, if there is no such way.
func (m *model) way(from, to api.Handle) []api.Handle {
	if from == to {
		return []api.Handle{to}
	}
	for _, k := range m.kids[from] {
		if rest := m.way(k, to); rest != nil {
			return append([]api.Handle{from}, rest...)
		}
	}
	return nil
}

func (m *model) depth(h api.Handle) int { return len(m.way(root(), h)) - 1 }

func (m *model) parent(h api.Handle) api.Handle {
	way := m.way(root(), h)
	return way[len(way)-2]
}

// place is the one for the next group, as P5.1 has it.
func (m *model) place() int {
	used := map[int]bool{}
	for h := range m.kids {
		used[h.Index] = true
	}
	for _, i := range slices.Backward(m.frees) {
		if !used[i] {
			return i
		}
	}
	i := 0
	for used[i] {
		i++
	}
	return i
}

func (m *model) create(parent api.Handle) (api.Handle, api.Errno) {
	switch {
	case !m.is(parent):
		return root(), api.ErrHandle
	case m.depth(parent) == deep:
		return root(), api.ErrDeep
	case len(m.kids) == room:
		return root(), api.ErrFull
	}
	i := m.place()
	gen := 0
	for _, f := range m.frees {
		if f == i {
			gen++
		}
	}
	h := at(i, gen)
	m.kids[h] = nil
	m.kids[parent] = append(m.kids[parent], h)
	m.told = append(m.told, h)
	return h, api.OK
}

func (m *model) leave(h api.Handle) {
	p := m.parent(h)
	m.kids[p] = slices.DeleteFunc(m.kids[p], func(k api.Handle) bool { return k == h })
}

func (m *model) destroy(h api.Handle) api.Errno {
	switch {
	case !m.is(h):
		return api.ErrHandle
	case h == root():
		return api.ErrArg
	case len(m.kids[h]) > 0:
		return api.ErrBusy
	}
	m.leave(h)
	delete(m.kids, h)
	m.frees = append(m.frees, h.Index)
	return api.OK
}

func (m *model) move(h, parent api.Handle) api.Errno {
	if !m.is(h) || !m.is(parent) {
		return api.ErrHandle
	}
	if h == root() {
		return api.ErrArg
	}
	if m.way(h, parent) != nil {
		return api.ErrLoop
	}
	for _, g := range m.below(h) {
		if m.depth(parent)+len(m.way(h, g)) > deep {
			return api.ErrDeep
		}
	}
	m.leave(h)
	m.kids[parent] = append(m.kids[parent], h)
	return api.OK
}

// answer is a call, and the error with which it ended.
type answer struct {
	call string
	e    api.Errno
}

// both is a tree beside its model, which are asked the same; met counts each answer.
type both struct {
	t   *testing.T
	g   *gtree.Tree
	m   *model
	met map[answer]int
}

func newBoth(t *testing.T, met map[answer]int) *both {
	return &both{t, gtree.New(), newModel(), met}
}

// often holds a test to have met each of these so often, so that it is not sound for want of any.
func often(t *testing.T, met map[answer]int, least int, want ...answer) {
	t.Helper()
	for _, a := range want {
		if met[a] < least {
			t.Errorf("%v: but %d times", a, met[a])
		}
	}
}

func (b *both) create(parent api.Handle) api.Handle {
	b.t.Helper()
	want, wantE := b.m.create(parent)
	h, e := b.g.Create(parent)
	if h != want || e != wantE {
		b.t.Fatalf("Create(%v): %v, %d; wanted %v, %d", parent, h, e, want, wantE)
	}
	b.met[answer{"Create", e}]++
	return h
}

func (b *both) destroy(h api.Handle) {
	b.t.Helper()
	want := b.m.destroy(h)
	if e := b.g.Destroy(h); e != want {
		b.t.Fatalf("Destroy(%v): %d; wanted %d", h, e, want)
	}
	b.met[answer{"Destroy", want}]++
}

func (b *both) move(h, parent api.Handle) api.Errno {
	b.t.Helper()
	want := b.m.move(h, parent)
	if e := b.g.Move(h, parent); e != want {
		b.t.Fatalf("Move(%v, %v): %d; wanted %d", h, parent, e, want)
	}
	b.met[answer{"Move", want}]++
	return want
}

// group holds all that is told of one handle to the model.
func (b *both) group(h api.Handle) {
	b.t.Helper()
	if !b.m.is(h) {
		nothing(b.t, b.g, h)
		return
	}
	way := b.m.way(root(), h)
	if h != root() {
		parent(b.t, b.g, h, way[len(way)-2])
	}
	var places []int
	for _, g := range way[1:] {
		places = append(places, g.Index)
	}
	path(b.t, b.g, h, places...)
	groups(b.t, "Kids", b.g.Kids(h), byPlace(b.m.kids[h])...)
	below := b.m.below(h)
	groups(b.t, "Below", b.g.Below(h), below...)
	for _, g := range b.m.all() {
		under(b.t, b.g, g, h, slices.Contains(below, g))
	}
}

// whole holds all that there is to the model.
func (b *both) whole() {
	b.t.Helper()
	all := b.m.all()
	groups(b.t, "All", b.g.All(), all...)
	for _, h := range all {
		b.group(h)
	}
}

// sound holds P10.3's first and last words of all that there is.
func (b *both) sound() {
	b.t.Helper()
	all := b.g.All()
	for _, h := range all {
		depth, _ := b.g.Depth(h)
		up := h
		for range depth {
			if up == root() {
				b.t.Fatalf("the way up from %v ends ahead of its depth, %d", h, depth)
			}
			up, _ = b.g.Parent(up)
		}
		if up != root() || depth > deep {
			b.t.Fatalf("the way up from %v ends at %v after %d steps", h, up, depth)
		}
	}
	for _, x := range all {
		under(b.t, b.g, x, x, true)
		under(b.t, b.g, x, root(), true)
		for _, y := range all {
			if x != y && b.g.Under(x, y) && b.g.Under(y, x) {
				b.t.Fatalf("%v and %v are below each other", x, y)
			}
			for _, z := range all {
				if b.g.Under(x, y) && b.g.Under(y, z) && !b.g.Under(x, z) {
					b.t.Fatalf("%v is below %v, and that below %v, but it is not", x, y, z)
				}
			}
		}
	}
}

// along holds P10.3 of a Move that can be done: all below go along as they are, all others stay, and moved back, all is as it was.
func (b *both) along(h, to api.Handle) {
	b.t.Helper()
	before := look(b.g)
	from, _ := b.g.Parent(h)
	was, _ := b.g.Depth(h)
	if b.move(h, to) != api.OK {
		same(b.t, "a Move that was refused", look(b.g), before)
		return
	}
	is, _ := b.g.Depth(h)
	for _, old := range before {
		p, e := b.g.Parent(old.h)
		moved := slices.Contains(old.path, h.Index)
		depth, _ := b.g.Depth(old.h)
		switch {
		case old.h == h && p != to, old.h != h && (p != old.parent || e != old.parentE):
			b.t.Fatalf("Move(%v, %v): %v is within %v", h, to, old.h, p)
		case moved && (depth-old.depth != is-was || !slices.Equal(b.g.Below(old.h), old.below)):
			b.t.Fatalf("Move(%v, %v) did not take %v along as it was", h, to, old.h)
		case !moved && depth != old.depth:
			b.t.Fatalf("Move(%v, %v) took %v along", h, to, old.h)
		}
	}
	b.whole()
	if b.move(h, from) != api.OK {
		b.t.Fatalf("%v can't be moved back", h)
	}
	same(b.t, "Move and Move back", look(b.g), before)
}

// step is the next one of numbers without a pattern, the same ones each time.
func step(x uint64) uint64 {
	x ^= x << 13
	x ^= x >> 7
	return x ^ x<<17
}

// TestAllTrees holds P10.1 to P10.3 of each tree of four groups, at the root and below chains of which the deepest ones come too deep: each is moved to each other one, and back, and one more is made and destroyed within each.
func TestAllTrees(t *testing.T) {
	const few = 4
	met := map[answer]int{}
	// 5^3 trees there are, of which 4 times 3 times 2 have all in one row, and 41 none deeper than two.
	for down, want := range map[int]int{0: 125, 4: 125, 5: 125 - 24, 6: 41, 7: 1, 8: 0} {
		trees := 0
		for n := range 5 * 5 * 5 * 5 {
			b, ok := hung(t, met, down, few, n)
			if !ok {
				continue
			}
			trees++
			b.whole()
			b.sound()
			for _, h := range b.g.All() {
				for _, to := range b.g.All() {
					b.along(h, to)
				}
			}
			for _, h := range b.g.All() {
				b.destroyAndBack(h)
			}
			b.whole()
		}
		if trees != want {
			t.Errorf("%d trees below the depth %d; wanted %d", trees, down, want)
		}
	}
	often(t, met, 100,
		answer{"Create", api.OK}, answer{"Create", api.ErrDeep},
		answer{"Destroy", api.OK}, answer{"Destroy", api.ErrArg}, answer{"Destroy", api.ErrBusy},
		answer{"Move", api.OK}, answer{"Move", api.ErrArg}, answer{"Move", api.ErrLoop}, answer{"Move", api.ErrDeep})
}

// hung is a tree with so few groups below the last one of a chain; n tells within which one each of them is. False: there is no such tree, or it is too deep.
func hung(t *testing.T, met map[answer]int, down, few, n int) (*both, bool) {
	t.Helper()
	b := newBoth(t, met)
	for i := range down {
		b.create(at(i, 0))
	}
	for range few {
		b.create(root())
	}
	for i := 1; i <= few; i++ {
		to := n % (few + 1)
		n /= few + 1
		if b.move(at(down+i, 0), at(down+to, 0)) != api.OK {
			return nil, false
		}
	}
	return b, true
}

// destroyAndBack makes a group within one and destroys it, and tries to destroy that one itself; where it can be, a new one takes its place.
func (b *both) destroyAndBack(h api.Handle) {
	b.t.Helper()
	before := look(b.g)
	if k := b.create(h); k != root() {
		b.destroy(h)
		b.destroy(k)
		nothing(b.t, b.g, k)
	}
	same(b.t, "Create and Destroy", look(b.g), before)
	if len(b.g.Kids(h)) > 0 || h == root() {
		b.destroy(h)
		same(b.t, "a Destroy that was refused", look(b.g), before)
		return
	}
	within, _ := b.g.Parent(h)
	b.destroy(h)
	again := b.create(within)
	b.group(h)
	b.group(again)
}

// TestLongWays holds P10.1 to P10.3 along ways without a pattern, with handles that live, that are gone, and that are off; now many groups come, now many go.
func TestLongWays(t *testing.T) {
	met := map[answer]int{}
	for seed := range 10 {
		b := newBoth(t, met)
		x := uint64(seed) + 88172645463325252
		for k := range 400 {
			x = step(x)
			h, other := some(b, x>>40), some(b, x>>12)
			grows := k/100%2 == 0
			switch pick := x >> 30 % 10; {
			case pick < 6 && grows || pick < 2:
				b.create(h)
			case pick < 7:
				b.move(h, other)
			default:
				b.destroy(h)
			}
			b.group(h)
			b.group(other)
			if k%10 == 0 {
				b.whole()
				b.sound()
			}
		}
		for _, h := range b.m.told {
			b.group(h)
		}
		for _, h := range b.g.All() {
			b.along(h, some(b, step(x+uint64(h.Index))>>40))
		}
	}
	often(t, met, 10,
		answer{"Create", api.OK}, answer{"Create", api.ErrHandle}, answer{"Create", api.ErrDeep}, answer{"Create", api.ErrFull},
		answer{"Destroy", api.OK}, answer{"Destroy", api.ErrHandle}, answer{"Destroy", api.ErrArg}, answer{"Destroy", api.ErrBusy},
		answer{"Move", api.OK}, answer{"Move", api.ErrHandle}, answer{"Move", api.ErrArg}, answer{"Move", api.ErrLoop}, answer{"Move", api.ErrDeep})
}

// some is a handle: mostly of a group that there is, and rather of a late one, so that the tree grows deep.
func some(b *both, n uint64) api.Handle {
	live := b.m.all()
	told := b.m.told[n%uint64(len(b.m.told))]
	switch n >> 8 % 16 {
	case 0:
		return told
	case 1:
		return at(told.Index, told.Gen+1)
	case 2:
		return at(told.Index+1, told.Gen)
	case 3, 4, 5, 6, 7, 8:
		deepest := live[0]
		for _, h := range live {
			if b.m.depth(h) > b.m.depth(deepest) || n>>4%5 == 0 {
				deepest = h
			}
		}
		return deepest
	}
	return live[n%uint64(len(live))]
}

// TestSameAgain holds R4: the same calls have the same answers, whatever other trees were asked ahead.
func TestSameAgain(t *testing.T) {
	ask := func() []seen {
		g := gtree.New()
		x := uint64(12345)
		for range 300 {
			x = step(x)
			all := g.All()
			h, to := all[x>>20%uint64(len(all))], all[x>>40%uint64(len(all))]
			switch x >> 10 % 4 {
			case 0, 1:
				g.Create(h)
			case 2:
				g.Move(h, to)
			case 3:
				g.Destroy(h)
			}
		}
		return look(g)
	}
	before := ask()
	same(t, "what was asked ahead", ask(), before)
}
