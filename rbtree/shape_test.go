package rbtree

import (
	"slices"
	"strconv"
	"strings"
	"testing"

	"dole/api"
)

// shape is what a look at all keys from one down tells of them.
type shape struct {
	keys          []api.Key
	height, black int
}

// look holds P6.2 from n down: no key stands below two others, all on the left of one are ahead of it, all on the right behind it; and what keeps the tree low.
func look(t *testing.T, n *node, seen map[*node]bool) shape {
	t.Helper()
	if n == nil {
		return shape{}
	}
	if seen[n] {
		t.Fatalf("%v stands below two", n.key)
	}
	seen[n] = true
	l, r := look(t, n.below[left], seen), look(t, n.below[right], seen)
	for _, k := range l.keys {
		if k.V > n.key.V || k.V == n.key.V && k.Id >= n.key.Id {
			t.Fatalf("%v stands on the left of %v", k, n.key)
		}
	}
	for _, k := range r.keys {
		if k.V < n.key.V || k.V == n.key.V && k.Id <= n.key.Id {
			t.Fatalf("%v stands on the right of %v", k, n.key)
		}
	}
	if l.black != r.black {
		t.Fatalf("below %v there are %d black ones on the left, %d on the right", n.key, l.black, r.black)
	}
	if n.red && (n.below[left].isRed() || n.below[right].isRed()) {
		t.Fatalf("a red one stands right below %v, which is red", n.key)
	}
	s := shape{append(append(l.keys, n.key), r.keys...), 1 + l.height, l.black}
	if r.height > l.height {
		s.height = 1 + r.height
	}
	if !n.red {
		s.black++
	}
	return s
}

// sound holds a tree to P6.2, by its nodes, and to just these keys, in order.
func sound(t *testing.T, tree *Tree, keys []api.Key) {
	t.Helper()
	s := look(t, tree.top, map[*node]bool{})
	if !slices.Equal(s.keys, keys) || tree.Len() != len(keys) {
		t.Fatalf("the tree has %v, Len %d; wanted %v", s.keys, tree.Len(), keys)
	}
	if tree.Height() != s.height {
		t.Fatalf("Height: %d; the longest way down has %d", tree.Height(), s.height)
	}
	if tree.top.isRed() {
		t.Fatal("the top is red")
	}
	k := 0
	for 2<<k <= len(keys)+1 {
		k++
	}
	if s.height > 2*k {
		t.Fatalf("%d keys stand %d high", len(keys), s.height)
	}
}

// twin is a tree of the same shape, of nodes of its own.
func twin(n *node) *node {
	if n == nil {
		return nil
	}
	return &node{n.key, n.red, [2]*node{twin(n.below[left]), twin(n.below[right])}}
}

// renumber gives the keys from n down the V 2, 4, 6 and so on, in order, so that there is room for a new one between any two; it tells the last V.
func renumber(n *node, last int64) int64 {
	if n == nil {
		return last
	}
	n.key.V = renumber(n.below[left], last) + 2
	return renumber(n.below[right], n.key.V)
}

// name tells shapes apart.
func name(n *node, out *strings.Builder) {
	if n == nil {
		out.WriteByte('.')
		return
	}
	out.WriteString(strconv.FormatBool(n.red)[:1])
	name(n.below[left], out)
	name(n.below[right], out)
}

// evens are the keys of so many, renumbered.
func evens(count int) []api.Key {
	var out []api.Key
	for i := range count {
		out = append(out, api.Key{V: int64(2*i + 2)})
	}
	return out
}

// after are the trees that one call makes of one: each key taken, and one put into each gap, if there is room.
func after(t *testing.T, tree *Tree, room int) []*Tree {
	t.Helper()
	var out []*Tree
	keys := evens(tree.count)
	for i, k := range keys {
		less := &Tree{twin(tree.top), tree.count}
		if !less.Delete(k) {
			t.Fatalf("Delete(%v): false", k)
		}
		sound(t, less, slices.Delete(slices.Clone(keys), i, i+1))
		out = append(out, less)
	}
	for i := 0; i <= len(keys) && len(keys) < room; i++ {
		more := &Tree{twin(tree.top), tree.count}
		k := api.Key{V: int64(2*i + 1)}
		if !more.Insert(k) {
			t.Fatalf("Insert(%v): false", k)
		}
		sound(t, more, slices.Insert(slices.Clone(keys), i, k))
		out = append(out, more)
	}
	return out
}

// TestAllShapes holds P6.2 and P6.3 of each shape that a tree which never has more than 13 keys can come to, and of each call at it: whatever comes and goes.
func TestAllShapes(t *testing.T) {
	const room = 13
	seen := map[string]int{}
	work := []*Tree{New()}
	for len(work) > 0 {
		tree := work[len(work)-1]
		work = work[:len(work)-1]
		for _, made := range after(t, tree, room) {
			renumber(made.top, 0)
			var text strings.Builder
			name(made.top, &text)
			if _, known := seen[text.String()]; !known {
				seen[text.String()] = made.count
				work = append(work, made)
			}
		}
	}
	shapes := make([]int, room+1)
	for _, count := range seen {
		shapes[count]++
	}
	// So many shapes there are of up to ten keys, as a count by halves tells apart from the program: were there fewer here, too little would have been held.
	if all := []int{1, 1, 2, 2, 4, 8, 16, 33, 56, 90, 164}; !slices.Equal(shapes[:len(all)], all) {
		t.Errorf("shapes by their keys: %v; wanted %v", shapes, all)
	}
}

// TestSoundThroughout holds P6.2 by the nodes, after each call, of a greater tree that now grows and now wanes.
func TestSoundThroughout(t *testing.T) {
	tree := New()
	var keys []api.Key
	x := uint64(88172645463325252)
	for n := range 4000 {
		x ^= x << 13
		x ^= x >> 7
		x ^= x << 17
		k := api.Key{V: int64(x >> 20 % 100), Id: int(x >> 40 % 4)}
		at, there := slices.BinarySearchFunc(keys, k, Compare)
		if x>>50%8 < 6 == (n/800%2 == 0) {
			if tree.Insert(k) == there {
				t.Fatalf("Insert(%v): %v", k, there)
			}
			if !there {
				keys = slices.Insert(keys, at, k)
			}
		} else {
			if tree.Delete(k) != there {
				t.Fatalf("Delete(%v): %v", k, !there)
			}
			if there {
				keys = slices.Delete(keys, at, at+1)
			}
		}
		sound(t, tree, keys)
	}
}

// TestRefusedChangesNothing holds P6.1 by the nodes: a key that is there already, or isn't, leaves each key where it stands.
func TestRefusedChangesNothing(t *testing.T) {
	for count := range 40 {
		tree := New()
		for _, k := range evens(count) {
			tree.Insert(k)
		}
		was, nodes := *tree, twin(tree.top)
		for _, k := range evens(count) {
			if tree.Insert(k) || tree.Delete(api.Key{V: k.V - 1}) || tree.Delete(api.Key{V: k.V, Id: 1}) {
				t.Fatalf("a call at %v was not refused", k)
			}
		}
		tree.Delete(api.Key{V: 1 << 40})
		if *tree != was || !same(tree.top, nodes) {
			t.Fatalf("a call that was refused changed a tree of %d keys", count)
		}
	}
}

func same(a, b *node) bool {
	if a == nil || b == nil {
		return a == nil && b == nil
	}
	return a.key == b.key && a.red == b.red && same(a.below[left], b.below[left]) && same(a.below[right], b.below[right])
}

// TestEmptiedKeepsNothing holds that a tree which was emptied keeps no more than a new one.
func TestEmptiedKeepsNothing(t *testing.T) {
	tree := New()
	for _, k := range evens(50) {
		tree.Insert(k)
	}
	for _, k := range evens(50) {
		tree.Delete(k)
	}
	if *tree != *New() {
		t.Errorf("an emptied tree keeps %v", *tree)
	}
}
