package rbtree_test

import (
	"math"
	"math/bits"
	"slices"
	"testing"

	"dole/api"
	"dole/rbtree"
)

func key(v int64, id int) api.Key { return api.Key{V: v, Id: id} }

// ahead tells the order by the chapter's words, apart from the program's Compare.
func ahead(a, b api.Key) bool { return a.V < b.V || a.V == b.V && a.Id < b.Id }

func order(a, b api.Key) int {
	if ahead(a, b) {
		return -1
	}
	if ahead(b, a) {
		return 1
	}
	return 0
}

// most is the height that so many keys may have: twice the greatest k with 2^k not above their number and one.
func most(count int) int {
	k := 0
	for 1<<(k+1) <= count+1 {
		k++
	}
	return 2 * k
}

// low holds a height to P6.2's bound, and to what a tree of so many keys has at least: with two keys below each one at most, h rows have less than 2^h of them.
func low(t *testing.T, r *rbtree.Tree, count int) {
	t.Helper()
	h := r.Height()
	if h > most(count) || h < bits.Len(uint(count)) {
		t.Fatalf("Height of %d keys: %d; wanted %d to %d", count, h, bits.Len(uint(count)), most(count))
	}
}

// is holds an answer of Min, Max or Next to a key.
func is(t *testing.T, what string, k api.Key, ok bool, want api.Key) {
	t.Helper()
	if k != want || !ok {
		t.Fatalf("%s: %v, %v; wanted %v", what, k, ok, want)
	}
}

// none holds such an answer to a zero key and false: R1.
func none(t *testing.T, what string, k api.Key, ok bool) {
	t.Helper()
	if k != key(0, 0) || ok {
		t.Fatalf("%s: %v, %v; wanted none", what, k, ok)
	}
}

// next holds Next of any key to what the keys of a tree, in order, tell.
func next(t *testing.T, r *rbtree.Tree, sorted []api.Key, k api.Key) {
	t.Helper()
	i := slices.IndexFunc(sorted, func(x api.Key) bool { return ahead(k, x) })
	got, ok := r.Next(k)
	if i < 0 {
		none(t, "Next", got, ok)
		return
	}
	is(t, "Next", got, ok, sorted[i])
}

// steps holds P6.3: from Min by Next all keys come, in order, each once.
func steps(t *testing.T, r *rbtree.Tree, sorted []api.Key) {
	t.Helper()
	var got []api.Key
	for k, ok := r.Min(); ok && len(got) <= len(sorted); k, ok = r.Next(k) {
		got = append(got, k)
	}
	if !slices.Equal(got, sorted) {
		t.Fatalf("from Min by Next: %v; wanted %v", got, sorted)
	}
}

// holds holds all that a tree tells to just these keys, in order.
func holds(t *testing.T, r *rbtree.Tree, sorted []api.Key) {
	t.Helper()
	low(t, r, len(sorted))
	if n := r.Len(); n != len(sorted) {
		t.Fatalf("Len: %d; wanted %d", n, len(sorted))
	}
	if got := r.Walk(); !slices.Equal(got, sorted) {
		t.Fatalf("Walk: %v; wanted %v", got, sorted)
	}
	first, hasFirst := r.Min()
	last, hasLast := r.Max()
	if len(sorted) == 0 {
		none(t, "Min", first, hasFirst)
		none(t, "Max", last, hasLast)
	} else {
		is(t, "Min", first, hasFirst, sorted[0])
		is(t, "Max", last, hasLast, sorted[len(sorted)-1])
	}
	for _, k := range sorted {
		if !r.Has(k) {
			t.Fatalf("Has(%v): false", k)
		}
	}
	steps(t, r, sorted)
}

// lacks holds Has, Next and Delete to keys that are not there.
func lacks(t *testing.T, r *rbtree.Tree, sorted []api.Key, keys ...api.Key) {
	t.Helper()
	for _, k := range keys {
		if r.Has(k) {
			t.Fatalf("Has(%v), which is not there: true", k)
		}
		next(t, r, sorted, k)
		if r.Delete(k) {
			t.Fatalf("Delete(%v), which is not there: true", k)
		}
	}
	holds(t, r, sorted)
}

func insert(t *testing.T, r *rbtree.Tree, k api.Key) {
	t.Helper()
	if !r.Insert(k) {
		t.Fatalf("Insert(%v): false", k)
	}
}

func remove(t *testing.T, r *rbtree.Tree, k api.Key) {
	t.Helper()
	if !r.Delete(k) {
		t.Fatalf("Delete(%v): false", k)
	}
}

// of is a tree of these keys, put in this order.
func of(t *testing.T, keys ...api.Key) *rbtree.Tree {
	t.Helper()
	r := rbtree.New()
	for _, k := range keys {
		insert(t, r, k)
	}
	return r
}

func sortedOf(keys []api.Key) []api.Key {
	out := slices.Clone(keys)
	slices.SortFunc(out, order)
	return out
}

// ends are keys with V and Id at the ends of what they may be, around zero, and around 2^32.
func ends() []api.Key {
	var out []api.Key
	for _, v := range []int64{math.MinInt64, math.MinInt64 + 1, -1 << 32, -1<<31 - 1, -1, 0, 1, 1 << 31, 1 << 32, math.MaxInt64 - 1, math.MaxInt64} {
		for _, id := range []int{math.MinInt, math.MinInt + 1, -1 << 32, -1, 0, 1, 1 << 32, math.MaxInt - 1, math.MaxInt} {
			out = append(out, key(v, id))
		}
	}
	return out
}

// TestExamples holds P6.1 to the chapter's examples.
func TestExamples(t *testing.T) {
	r := of(t, key(5, 1), key(3, 9), key(5, 0))
	want := []api.Key{key(3, 9), key(5, 0), key(5, 1)}
	if got := r.Walk(); !slices.Equal(got, want) {
		t.Errorf("Walk: %v", got)
	}
	for _, k := range []api.Key{key(3, 9), key(4, 0)} {
		got, ok := r.Next(k)
		is(t, "Next", got, ok, key(5, 0))
	}
	holds(t, r, want)
}

// TestCompare holds P6.1 of Compare at keys of one V, of one Id, at both ends, and where a difference of two V, or of two Ids, runs over.
func TestCompare(t *testing.T) {
	for _, c := range []struct {
		a, b api.Key
		want int
	}{
		{key(1, 0), key(2, 0), -1},
		{key(2, 0), key(1, 0), 1},
		{key(1, 9), key(2, 0), -1},
		{key(2, 0), key(1, 9), 1},
		{key(1, 3), key(1, 4), -1},
		{key(1, 4), key(1, 3), 1},
		{key(1, 3), key(1, 3), 0},
		{key(0, 0), key(0, 0), 0},
		{key(-1, 0), key(1, 0), -1},
		{key(-1, 5), key(0, -5), -1},
		{key(math.MinInt64, 0), key(math.MaxInt64, 0), -1},
		{key(math.MaxInt64, 0), key(math.MinInt64, 0), 1},
		{key(math.MinInt64, 0), key(1, 0), -1},
		{key(1, 0), key(math.MinInt64, 0), 1},
		{key(-2, 0), key(math.MaxInt64, 0), -1},
		{key(7, math.MinInt), key(7, math.MaxInt), -1},
		{key(7, math.MaxInt), key(7, math.MinInt), 1},
		{key(7, math.MinInt), key(7, 1), -1},
		{key(0, 0), key(1<<32, 0), -1},
		{key(1<<32, 0), key(0, 0), 1},
		{key(0, 0), key(0, 1<<32), -1},
	} {
		if got := rbtree.Compare(c.a, c.b); got != c.want {
			t.Errorf("Compare(%v, %v): %d; wanted %d", c.a, c.b, got, c.want)
		}
	}
	for _, a := range ends() {
		for _, b := range ends() {
			if got := rbtree.Compare(a, b); got != order(a, b) {
				t.Errorf("Compare(%v, %v): %d; wanted %d", a, b, got, order(a, b))
			}
		}
	}
}

// TestNew holds P6.1 and P6.2 of a tree that is new: it is there, and has nothing.
func TestNew(t *testing.T) {
	r := rbtree.New()
	if r == nil {
		t.Fatal("New: nil")
	}
	holds(t, r, nil)
	lacks(t, r, nil, ends()...)
	if h := r.Height(); h != 0 {
		t.Errorf("Height without keys: %d", h)
	}
}

// TestNil holds P6.1's last words, R1 and P1: of a tree that is nil.
func TestNil(t *testing.T) {
	var r *rbtree.Tree
	for range 2 {
		for _, k := range append(ends(), key(0, 0), key(5, 1)) {
			if r.Insert(k) {
				t.Fatalf("Insert(%v) into nil: true", k)
			}
			lacks(t, r, nil, k)
		}
		holds(t, r, nil)
	}
}

// TestZero holds P1: R5 asks a zero tree nothing, so that any answer will do, but a panic would not.
func TestZero(t *testing.T) {
	var r rbtree.Tree
	for _, k := range ends() {
		r.Delete(k)
		r.Insert(k)
		r.Has(k)
		r.Next(k)
		r.Min()
		r.Max()
		r.Walk()
		r.Len()
		r.Height()
	}
}

// TestOneKey holds P6.1 and P6.2 of a tree of one key, the zero key and those at the ends among them: it comes, and goes, and comes again.
func TestOneKey(t *testing.T) {
	for _, k := range append(ends(), key(0, 0), key(5, 1)) {
		r := rbtree.New()
		for range 3 {
			lacks(t, r, nil, k)
			insert(t, r, k)
			holds(t, r, []api.Key{k})
			if h := r.Height(); h != 1 {
				t.Fatalf("Height of one key: %d", h)
			}
			got, ok := r.Next(k)
			none(t, "Next of the only one", got, ok)
			remove(t, r, k)
			holds(t, r, nil)
		}
	}
}

// TestTwice holds P6.1: a key that is there is not put again, one that isn't is not taken, and the tree stays as it is.
func TestTwice(t *testing.T) {
	keys := []api.Key{key(4, 0), key(2, 0), key(6, 0), key(2, 1), key(-7, 3), key(0, 0), key(9, 9)}
	sorted := sortedOf(keys)
	r := of(t, keys...)
	for _, k := range keys {
		for range 3 {
			if r.Insert(k) {
				t.Fatalf("Insert(%v), which is there: true", k)
			}
			holds(t, r, sorted)
		}
	}
	for _, k := range keys {
		remove(t, r, k)
		sorted = slices.DeleteFunc(sorted, func(x api.Key) bool { return x == k })
		for range 3 {
			if r.Delete(k) {
				t.Fatalf("Delete(%v), which was taken: true", k)
			}
			lacks(t, r, sorted, k)
		}
	}
	holds(t, r, nil)
}

// TestOneV holds P6.1: of one V the lesser Id is ahead, whatever came first; and a key is not there because another one of its V, or of its Id, is.
func TestOneV(t *testing.T) {
	keys := []api.Key{key(5, 3), key(5, -1), key(5, 7), key(5, 0), key(5, math.MaxInt), key(5, math.MinInt), key(5, 4)}
	sorted := sortedOf(keys)
	r := of(t, keys...)
	holds(t, r, sorted)
	lacks(t, r, sorted, key(5, 1), key(5, 2), key(5, 8), key(5, -2), key(4, 3), key(6, 3), key(4, math.MaxInt), key(6, math.MinInt), key(0, 5), key(3, 5))
	for _, k := range []api.Key{key(5, 3), key(5, math.MinInt), key(5, math.MaxInt)} {
		remove(t, r, k)
		sorted = slices.DeleteFunc(sorted, func(x api.Key) bool { return x == k })
		lacks(t, r, sorted, k)
	}
	insert(t, r, key(4, 9))
	insert(t, r, key(6, -9))
	holds(t, r, []api.Key{key(4, 9), key(5, -1), key(5, 0), key(5, 4), key(5, 7), key(6, -9)})
}

// TestEnds holds P6.1 to P6.3 of keys with V and Id at both ends: each comes and goes, and Next of each, there or not, is the one behind it.
func TestEnds(t *testing.T) {
	all := ends()
	r := rbtree.New()
	var sorted []api.Key
	// By steps of 40, which share no factor with 99, so that the ends do not come in order.
	for i := range all {
		k := all[i*40%len(all)]
		lacks(t, r, sorted, k)
		insert(t, r, k)
		sorted = sortedOf(append(sorted, k))
		holds(t, r, sorted)
	}
	if !slices.Equal(sorted, all) {
		t.Fatalf("not all ends came: %v", sorted)
	}
	for _, k := range all {
		next(t, r, sorted, k)
	}
	for i := range all {
		k := all[i*70%len(all)]
		remove(t, r, k)
		sorted = slices.DeleteFunc(sorted, func(x api.Key) bool { return x == k })
		holds(t, r, sorted)
		for _, x := range all {
			next(t, r, sorted, x)
		}
	}
}

// TestNext holds P6.1 of Next: of keys that are there and that are not, ahead of all, between two, of the last one, and behind all.
func TestNext(t *testing.T) {
	r := of(t, key(10, 5), key(20, 5), key(20, 8), key(30, -5))
	for _, c := range []struct{ k, want api.Key }{
		{key(math.MinInt64, math.MinInt), key(10, 5)},
		{key(9, 100), key(10, 5)},
		{key(10, 4), key(10, 5)},
		{key(10, 5), key(20, 5)},
		{key(10, 6), key(20, 5)},
		{key(15, 0), key(20, 5)},
		{key(20, 4), key(20, 5)},
		{key(20, 5), key(20, 8)},
		{key(20, 6), key(20, 8)},
		{key(20, 7), key(20, 8)},
		{key(20, 8), key(30, -5)},
		{key(20, 9), key(30, -5)},
		{key(20, math.MaxInt), key(30, -5)},
		{key(30, math.MinInt), key(30, -5)},
		{key(30, -6), key(30, -5)},
	} {
		got, ok := r.Next(c.k)
		is(t, "Next", got, ok, c.want)
	}
	for _, k := range []api.Key{key(30, -5), key(30, -4), key(30, math.MaxInt), key(31, math.MinInt), key(math.MaxInt64, math.MaxInt)} {
		got, ok := r.Next(k)
		none(t, "Next", got, ok)
	}
	holds(t, r, []api.Key{key(10, 5), key(20, 5), key(20, 8), key(30, -5)})
}

// TestEndsAreTaken holds P6.1 of Min and Max after the first, after the last, and after now the one and now the other was taken.
func TestEndsAreTaken(t *testing.T) {
	for _, way := range []func(i int) bool{
		func(int) bool { return true },
		func(int) bool { return false },
		func(i int) bool { return i%2 == 0 },
		func(i int) bool { return i%3 == 0 },
	} {
		r := rbtree.New()
		var sorted []api.Key
		for i := range 70 {
			sorted = append(sorted, key(int64(i/3), i))
			insert(t, r, sorted[i])
		}
		for i := 0; len(sorted) > 0; i++ {
			var k api.Key
			var ok bool
			if way(i) {
				k, ok = r.Min()
				is(t, "Min", k, ok, sorted[0])
				sorted = sorted[1:]
			} else {
				k, ok = r.Max()
				is(t, "Max", k, ok, sorted[len(sorted)-1])
				sorted = sorted[:len(sorted)-1]
			}
			remove(t, r, k)
			holds(t, r, sorted)
		}
		k, ok := r.Min()
		none(t, "Min", k, ok)
		k, ok = r.Max()
		none(t, "Max", k, ok)
	}
}

// orders are the ways in which keys come and go: rising, falling, from both ends inward, and from the middle outward.
func orders(count int) map[string][]int {
	var rising, inward []int
	for i := range count {
		rising = append(rising, i)
		if i%2 == 0 {
			inward = append(inward, i/2)
		} else {
			inward = append(inward, count-1-i/2)
		}
	}
	falling, outward := slices.Clone(rising), slices.Clone(inward)
	slices.Reverse(falling)
	slices.Reverse(outward)
	return map[string][]int{"rising": rising, "falling": falling, "inward": inward, "outward": outward}
}

// comesAndGoes holds P6.1 to P6.3 after each single call: all keys come in one order, and go in another one.
func comesAndGoes(t *testing.T, keys []api.Key, come, leave []int) {
	t.Helper()
	r := rbtree.New()
	there := make([]bool, len(keys))
	check := func() {
		t.Helper()
		var sorted []api.Key
		for i, is := range there {
			if is {
				sorted = append(sorted, keys[i])
			} else if r.Has(keys[i]) {
				t.Fatalf("Has(%v), which is not there: true", keys[i])
			}
		}
		holds(t, r, sorted)
	}
	for _, i := range come {
		insert(t, r, keys[i])
		there[i] = true
		check()
	}
	for _, i := range leave {
		remove(t, r, keys[i])
		there[i] = false
		check()
	}
}

// TestOrders holds P6.1 to P6.3 of keys that come rising, falling, inward and outward, and go in each of these orders.
func TestOrders(t *testing.T) {
	for _, count := range []int{1, 2, 3, 4, 5, 6, 7, 8, 9, 15, 16, 17, 31, 32, 33, 64, 150} {
		var keys []api.Key
		for i := range count {
			keys = append(keys, key(int64(i/2-count/4), i%2*7-3))
		}
		for _, come := range orders(count) {
			for _, leave := range orders(count) {
				comesAndGoes(t, keys, come, leave)
			}
		}
	}
}

// TestMany holds P6.2 and P6.3 of many keys in these orders: the height behind each single call is held at some thousands, now and then the whole.
func TestMany(t *testing.T) {
	const count = 2500
	for name, come := range orders(count) {
		for gone, leave := range orders(count) {
			r := rbtree.New()
			for n, i := range come {
				insert(t, r, key(int64(i), -i))
				low(t, r, n+1)
			}
			if r.Len() != count || len(r.Walk()) != count {
				t.Fatalf("%s: Len %d", name, r.Len())
			}
			for n, i := range leave {
				remove(t, r, key(int64(i), -i))
				low(t, r, count-n-1)
			}
			if r.Len() != 0 || r.Height() != 0 || len(r.Walk()) != 0 {
				t.Fatalf("%s, %s: not empty", name, gone)
			}
		}
	}
}

// TestFewLeft holds P6.2 and P6.3 after nearly all of very many keys have gone: the few that stay stand as low as if they alone had come.
func TestFewLeft(t *testing.T) {
	const count = 100000
	for _, stay := range []func(i int) bool{
		func(i int) bool { return i < 3 },
		func(i int) bool { return i >= count-7 },
		func(i int) bool { return i%9999 == 5 },
		func(i int) bool { return i > count/2 && i < count/2+20 },
	} {
		r := rbtree.New()
		for i := range count {
			insert(t, r, key(int64(i)<<20, i))
		}
		low(t, r, count)
		var sorted []api.Key
		for i := range count {
			k := key(int64(i)<<20, i)
			if stay(i) {
				sorted = append(sorted, k)
				continue
			}
			remove(t, r, k)
			if i%10007 == 0 || r.Len() < 40 {
				low(t, r, r.Len())
			}
		}
		holds(t, r, sorted)
	}
}

// TestAllOrders holds P6.1 to P6.3 after each single call, of up to five keys that come in each order, and go in each order.
func TestAllOrders(t *testing.T) {
	for count := 1; count <= 5; count++ {
		all := permutations(count)
		for _, come := range all {
			for _, leave := range all {
				r := rbtree.New()
				for n, i := range come {
					insert(t, r, key(int64(i/2), i))
					low(t, r, n+1)
				}
				there := make([]bool, count)
				for i := range there {
					there[i] = true
				}
				for n, i := range leave {
					remove(t, r, key(int64(i/2), i))
					there[i] = false
					low(t, r, count-n-1)
					sameSteps(t, r, there)
				}
			}
		}
	}
}

// sameSteps holds Min, Next and Has to the keys {i/2, i} of all i that are there.
func sameSteps(t *testing.T, r *rbtree.Tree, there []bool) {
	t.Helper()
	k, ok := r.Min()
	for i, is := range there {
		want := key(int64(i/2), i)
		if r.Has(want) != is {
			t.Fatalf("Has(%v): %v", want, !is)
		}
		if !is {
			continue
		}
		if !ok || k != want {
			t.Fatalf("by Next: %v, %v; wanted %v", k, ok, want)
		}
		k, ok = r.Next(k)
	}
	none(t, "Next of the last one", k, ok)
}

func permutations(count int) [][]int {
	if count == 0 {
		return [][]int{{}}
	}
	var out [][]int
	for _, p := range permutations(count - 1) {
		for i := range count {
			out = append(out, slices.Insert(slices.Clone(p), i, count-1))
		}
	}
	return out
}

// number is the next one of numbers without a pattern, the same ones each time.
func number(x uint64) uint64 {
	x ^= x << 13
	x ^= x >> 7
	return x ^ x<<17
}

// TestLongWays holds P6.1 to P6.3 after each call, along ways without a pattern: a tree that now grows and now wanes, and is asked for keys that are there and that are not.
func TestLongWays(t *testing.T) {
	for _, span := range []uint64{2, 5, 12, 40, 150} {
		for seed := range 6 {
			x := uint64(seed)*977 + span + 88172645463325252
			r := rbtree.New()
			var sorted []api.Key
			for n := range 900 {
				x = number(x)
				k := key(int64(x>>20%span/3)-int64(span/6), int(x>>20%span%3)-1)
				at, there := slices.BinarySearchFunc(sorted, k, order)
				next(t, r, sorted, k)
				if r.Has(k) != there {
					t.Fatalf("Has(%v): %v", k, !there)
				}
				grows := n/150%2 == 0
				if x>>50%8 < 6 == grows {
					if r.Insert(k) == there {
						t.Fatalf("Insert(%v): %v", k, there)
					}
					if !there {
						sorted = slices.Insert(sorted, at, k)
					}
				} else {
					if r.Delete(k) != there {
						t.Fatalf("Delete(%v): %v", k, !there)
					}
					if there {
						sorted = slices.Delete(sorted, at, at+1)
					}
				}
				holds(t, r, sorted)
			}
		}
	}
}

// TestEmptied holds P6.1 and P6.2 of a tree that was emptied: it is as a new one, again and again.
func TestEmptied(t *testing.T) {
	r := rbtree.New()
	for round := range 5 {
		var keys []api.Key
		for i := range 20 + round {
			keys = append(keys, key(int64(i*7%11), i-round))
		}
		for _, k := range keys {
			insert(t, r, k)
		}
		holds(t, r, sortedOf(keys))
		for _, k := range keys {
			remove(t, r, k)
		}
		holds(t, r, nil)
		lacks(t, r, nil, keys...)
		lacks(t, r, nil, ends()...)
	}
}

// TestWalkIsTheCallers holds R3: what Walk tells may be changed by the caller, and what was told stays as it is when the tree changes.
func TestWalkIsTheCallers(t *testing.T) {
	var sorted []api.Key
	r := rbtree.New()
	for i := range 10 {
		sorted = append(sorted, key(int64(i), i))
		insert(t, r, sorted[i])
	}
	first, second := r.Walk(), r.Walk()
	for i := range first {
		first[i] = key(-99, 99)
	}
	_ = append(first[:0:cap(first)], make([]api.Key, cap(first))...)
	_ = append(first, key(-1, -1))
	holds(t, r, sorted)
	if !slices.Equal(second, sorted) {
		t.Errorf("two answers of Walk share memory: %v", second)
	}
	remove(t, r, key(4, 4))
	insert(t, r, key(4, 5))
	insert(t, r, key(-4, 5))
	r.Walk()
	if !slices.Equal(second, sorted) {
		t.Errorf("what Walk told has changed with the tree: %v", second)
	}
}

// TestAskingChangesNothing holds P6.1: what only asks leaves the tree as it is, and tells the same again.
func TestAskingChangesNothing(t *testing.T) {
	keys := []api.Key{key(8, 0), key(1, 0), key(5, 5), key(5, 2), key(3, 3), key(9, -9), key(7, 7), key(2, 2)}
	r := of(t, keys...)
	height := r.Height()
	for range 3 {
		holds(t, r, sortedOf(keys))
		lacks(t, r, sortedOf(keys), key(0, 0), key(5, 3), key(10, 0))
		if h := r.Height(); h != height {
			t.Fatalf("Height: %d, then %d", height, h)
		}
	}
}

// TestTreesApart holds R4: two trees share nothing.
func TestTreesApart(t *testing.T) {
	p, q := rbtree.New(), rbtree.New()
	var odd, even []api.Key
	for i := range 40 {
		k := key(int64(i), 40-i)
		if i%2 == 0 {
			insert(t, p, k)
			even = append(even, k)
		} else {
			insert(t, q, k)
			odd = append(odd, k)
		}
	}
	holds(t, p, even)
	holds(t, q, odd)
	for _, k := range even {
		if q.Has(k) || q.Delete(k) || !p.Delete(k) {
			t.Fatalf("%v is in the wrong tree", k)
		}
	}
	holds(t, p, nil)
	holds(t, q, odd)
}

// TestSameAgain holds R4: the same calls have the same answers, Height's too, whatever other trees were asked ahead.
func TestSameAgain(t *testing.T) {
	ask := func() []int {
		r := rbtree.New()
		var out []int
		x := uint64(12345)
		for range 2000 {
			x = number(x)
			k := key(int64(x>>20%60), int(x>>40%3))
			if x>>50%2 == 0 {
				r.Insert(k)
			} else {
				r.Delete(k)
			}
			out = append(out, r.Height(), r.Len())
		}
		return out
	}
	if first := ask(); !slices.Equal(first, ask()) {
		t.Error("the same calls have other answers the second time")
	}
}
