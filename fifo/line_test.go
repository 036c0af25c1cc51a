package fifo_test

import (
	"math"
	"slices"
	"testing"

	"dole/fifo"
)

const most = 64 // that wait, by the chapter's words

// upTo are the numbers from 0 on that are below n.
func upTo(n int) []int {
	var l []int
	for p := range n {
		l = append(l, p)
	}
	return l
}

// turned is a line with these in turn, whose ring begins at one of its places: so many were taken ahead of them.
func turned(t *testing.T, from int, ps ...int) *fifo.Line {
	t.Helper()
	l := fifo.New()
	for range from {
		put(t, l, 7, true)
		take(t, l, 7)
	}
	for _, p := range ps {
		put(t, l, p, true)
	}
	holds(t, l, ps...)
	return l
}

func put(t *testing.T, l *fifo.Line, p int, want bool) {
	t.Helper()
	if is := l.Put(p); is != want {
		t.Fatalf("Put(%d): %v", p, is)
	}
}

func take(t *testing.T, l *fifo.Line, want int) {
	t.Helper()
	if p, is := l.Take(); p != want || !is {
		t.Fatalf("Take(): %d, %v; wanted %d", p, is, want)
	}
}

func takeNone(t *testing.T, l *fifo.Line) {
	t.Helper()
	if p, is := l.Take(); p != 0 || is {
		t.Fatalf("Take() of none: %d, %v", p, is)
	}
}

func drop(t *testing.T, l *fifo.Line, p int, want bool) {
	t.Helper()
	if is := l.Drop(p); is != want {
		t.Fatalf("Drop(%d): %v", p, is)
	}
}

// holds holds a line to just these, in turn.
func holds(t *testing.T, l *fifo.Line, want ...int) {
	t.Helper()
	if got := l.List(); !slices.Equal(got, want) || l.Len() != len(want) {
		t.Fatalf("the line is %v, of %d; wanted %v", got, l.Len(), want)
	}
}

// TestLineNamed holds P13.1 along one way that is worked out by hand.
func TestLineNamed(t *testing.T) {
	l := fifo.New()
	holds(t, l)
	takeNone(t, l)
	put(t, l, 5, true)
	put(t, l, 0, true)
	put(t, l, 63, true)
	holds(t, l, 5, 0, 63)
	put(t, l, 0, false)
	holds(t, l, 5, 0, 63)
	take(t, l, 5)
	holds(t, l, 0, 63)
	put(t, l, 5, true)
	holds(t, l, 0, 63, 5)
	drop(t, l, 63, true)
	holds(t, l, 0, 5)
	drop(t, l, 63, false)
	holds(t, l, 0, 5)
	put(t, l, 63, true)
	take(t, l, 0)
	take(t, l, 5)
	take(t, l, 63)
	holds(t, l)
	takeNone(t, l)
	put(t, l, 2, true)
	holds(t, l, 2)
}

// TestPutBelow holds P13.1 of Put: no number below 0 ever stands in a line, and no line is changed by one.
func TestPutBelow(t *testing.T) {
	for _, ps := range [][]int{nil, {0}, {3, 1, 2}, upTo(most)} {
		for _, p := range []int{-1, -2, -most, -most - 1, -1 << 32, -1<<32 + 1, math.MinInt, math.MinInt + 1} {
			l := turned(t, 0, ps...)
			put(t, l, p, false)
			drop(t, l, p, false)
			holds(t, l, ps...)
		}
	}
}

// TestPutAbove holds P13.1 of Put: it names no end above, so that each number from 0 on may stand there, each one for itself.
func TestPutAbove(t *testing.T) {
	ps := []int{0, 1, 62, 63, 64, 65, 127, 128, 255, 256, 1 << 16, 1 << 31, 1 << 32, 1<<32 + 1, math.MaxInt - 1, math.MaxInt}
	l := turned(t, 60, ps...)
	for i, p := range ps {
		put(t, l, p, false)
		holds(t, l, ps[i:]...)
		take(t, l, p)
		holds(t, l, ps[i+1:]...)
	}
	l = turned(t, 60, ps...)
	for i := len(ps) - 1; i >= 0; i-- {
		drop(t, l, ps[i], true)
		drop(t, l, ps[i], false)
		holds(t, l, ps[:i]...)
	}
}

// TestFull holds P13.1 of Put where so many stand there as may, or one fewer, at each turn of the ring; taken or dropped, one makes room for one.
func TestFull(t *testing.T) {
	all := upTo(most)
	for from := range 2 * most {
		l := turned(t, from, all[:most-1]...)
		put(t, l, 9, false)
		put(t, l, most-1, true)
		for _, p := range []int{most, most + 1, 0, 9, most - 1, math.MaxInt, -1} {
			put(t, l, p, false)
			holds(t, l, all...)
		}
		take(t, l, 0)
		put(t, l, 100, true)
		put(t, l, 0, false)
		now := append(slices.Clone(all[1:]), 100)
		holds(t, l, now...)
		drop(t, l, 20, true)
		put(t, l, 0, true)
		put(t, l, 20, false)
		now = append(slices.Delete(now, 19, 20), 0)
		holds(t, l, now...)
		for _, p := range now {
			take(t, l, p)
		}
		takeNone(t, l)
		holds(t, l)
	}
}

// TestPutAgain holds P13.1 of Put: one that stands there, wherever it does, stays where it is.
func TestPutAgain(t *testing.T) {
	for _, n := range []int{1, 2, 5, most - 1, most} {
		for from := range most {
			l := turned(t, from, upTo(n)...)
			for p := range n {
				put(t, l, p, false)
			}
			holds(t, l, upTo(n)...)
		}
	}
}

// TestGone holds P13.1 of those that stand there no more: what the ring had of them is not seen, neither where they stood nor of 0, which a new ring has.
func TestGone(t *testing.T) {
	l := fifo.New()
	drop(t, l, 0, false)
	put(t, l, 0, true)
	take(t, l, 0)
	drop(t, l, 0, false)
	put(t, l, 4, true)
	drop(t, l, 0, false)
	put(t, l, 0, true)
	drop(t, l, 4, true)
	drop(t, l, 4, false)
	put(t, l, 4, true)
	holds(t, l, 0, 4)

	l = turned(t, 0, upTo(most)...)
	for p := range most {
		take(t, l, p)
		drop(t, l, p, false)
	}
	for p := range most {
		drop(t, l, p, false)
	}
	for p := range most {
		put(t, l, p, true)
	}
	holds(t, l, upTo(most)...)
}

// TestDrop holds P13.1 of Drop, of each that stands there, in lines of each length, each at a third of the turns of the ring: all others stay in turn.
func TestDrop(t *testing.T) {
	for n := 1; n <= most; n++ {
		all := upTo(n)
		for from := range most {
			for p := from % 3; p < n; p += 3 {
				l := turned(t, from, all...)
				drop(t, l, p, true)
				rest := slices.Delete(slices.Clone(all), p, p+1)
				holds(t, l, rest...)
				drop(t, l, p, false)
				drop(t, l, n, false)
				holds(t, l, rest...)
				put(t, l, p, true)
				holds(t, l, append(rest, p)...)
			}
		}
	}
}

// TestDropAll holds P13.1 of Drop till nobody is left: from the first one on, from the last one back, and from the middle.
func TestDropAll(t *testing.T) {
	for _, at := range []func(n int) int{
		func(n int) int { return 0 },
		func(n int) int { return n - 1 },
		func(n int) int { return n / 2 },
	} {
		for from := range most {
			rest := upTo(most)
			l := turned(t, from, rest...)
			for len(rest) > 0 {
				i := at(len(rest))
				drop(t, l, rest[i], true)
				rest = slices.Delete(rest, i, i+1)
				holds(t, l, rest...)
			}
			takeNone(t, l)
			put(t, l, 3, true)
			holds(t, l, 3)
		}
	}
}

// TestNil holds P13.1 of a Line that is nil.
func TestNil(t *testing.T) {
	var l *fifo.Line
	for _, p := range []int{0, 1, 5, 63, 64, -1, math.MaxInt, math.MinInt} {
		put(t, l, p, false)
		drop(t, l, p, false)
		takeNone(t, l)
		holds(t, l)
	}
}

// TestTold holds R3: what is told is the caller's own.
func TestTold(t *testing.T) {
	l := turned(t, 62, 3, 1, 2)
	first, second := l.List(), l.List()
	for i := range first {
		first[i] = 99
	}
	_ = append(first[:1], 98, 97, 96, 95)
	if !slices.Equal(second, []int{3, 1, 2}) {
		t.Errorf("a list is %v behind a change of another one", second)
	}
	holds(t, l, 3, 1, 2)
	take(t, l, 3)
	drop(t, l, 2, true)
	put(t, l, 8, true)
	if !slices.Equal(second, []int{3, 1, 2}) {
		t.Errorf("a list is %v behind calls of its line", second)
	}
}

// TestApart holds R4: what is done with one line is not seen of another one.
func TestApart(t *testing.T) {
	a, b := fifo.New(), fifo.New()
	put(t, a, 1, true)
	holds(t, b)
	put(t, b, 2, true)
	put(t, b, 1, true)
	holds(t, a, 1)
	take(t, b, 2)
	drop(t, b, 1, true)
	holds(t, a, 1)
	holds(t, b)
	holds(t, fifo.New())
}
