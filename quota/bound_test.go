package quota_test

import (
	"testing"

	"dole/quota"
)

// terms are what P12.4 is told with: d is D, the longest charge.
type terms struct {
	ps              int
	quota, slice, d int64
}

func allTerms() []terms {
	return []terms{
		{1, 1, 1, 1}, {1, 1, 1, 0}, {1, 1, 1, longest}, {1, 30, 10, 10}, {1, end, end, longest}, {1, end, 1, longest}, {1, 7, end, 3},
		{2, 10, 4, 5}, {2, 10, 4, 1}, {2, 1, 1, 100}, {3, 100, 7, 20}, {3, 100, 100, 1}, {5, 1000, 1, 3},
		{8, 100000000, 5000000, 4000000}, {64, 64, 1, 1}, {64, 1000, 10, 7}, {64, 100000000, 5000000, 1000000}, {64, 64 * longest, longest, longest}, {64, 3, 1, longest}, {64, end, end, longest},
	}
}

// bound is what P12.4 lets be spent between two refills.
func (s terms) bound() int64 { return s.quota + int64(s.ps)*s.d }

// all is what a band has and had: pool, local times, and what was spent.
func all(b *quota.Band, ps int) int64 {
	s := look(b, ps)
	n := s.pool + s.spent
	for _, l := range s.local {
		n += l
	}
	return n
}

// owed is what all Ps together owe: 0, or below.
func owed(b *quota.Band, ps int) int64 {
	n := int64(0)
	for _, l := range look(b, ps).local {
		n += min(l, 0)
	}
	return n
}

// period is a way of calls between two refills in which a P is charged only while Ensure says so, held to P12.4 behind each call.
func period(t *testing.T, b *quota.Band, s terms, c *chance) {
	t.Helper()
	has := s.quota + owed(b, s.ps)
	for range 60 + 4*s.ps {
		p := int(c.below(int64(s.ps)))
		switch {
		case c.below(8) == 0:
			b.Return(p)
		case b.Ensure(p):
			ns := s.d
			if c.below(3) == 0 {
				ns = c.upTo(s.d)
			}
			b.Charge(p, ns)
		}
		if n := b.Spent(); n > s.bound() {
			t.Fatalf("%v: %d spent; the bound is %d", s, n, s.bound())
		}
		if n := all(b, s.ps); n != has {
			t.Fatalf("%v: pool, local times, and what was spent are %d; at first they were %d", s, n, has)
		}
	}
}

// TestNoMore holds P12.4 over many periods; and since what a P owes stays, of all of them together there is no more than all quotas, and D for each P but once.
func TestNoMore(t *testing.T) {
	for _, s := range allTerms() {
		for seed := range uint64(20) {
			c := &chance{seed + 88172645463325252}
			b := limited(t, s.ps, s.quota, s.slice)
			together := int64(0)
			for k := range int64(20) {
				period(t, b, s, c)
				together += b.Spent()
				if together > (k+1)*s.quota+int64(s.ps)*s.d {
					t.Fatalf("%v: %d spent in %d periods", s, together, k+1)
				}
				b.Refill()
			}
			// A new quota is a period's beginning too, and what was owed is gone.
			set(t, b, s.quota, s.slice)
			period(t, b, s, c)
		}
	}
}

// TestAsMuch holds P12.4 to be no wider than it must: where each P ends up with one nanosecond, and is charged once more, but one for each P is missing.
func TestAsMuch(t *testing.T) {
	for _, s := range []terms{{1, 30, 10, 10}, {2, 8, 4, 5}, {3, 300, 100, 7}, {64, 64, 1, 1}, {64, 64, 1, longest}, {64, 640, 10, 9}, {64, 64 * longest, longest, longest}} {
		b := limited(t, s.ps, s.quota, s.slice)
		for p := range s.ps {
			// Down to the last nanosecond of its part, in charges of D at most.
			for left := s.quota/int64(s.ps) - 1; left > 0; left -= s.d {
				ensure(t, b, p, true)
				charge(t, b, p, min(left, s.d), true)
			}
			ensure(t, b, p, true)
		}
		if b.Pool() != 0 {
			t.Fatalf("%v: the pool is %d", s, b.Pool())
		}
		for p := range s.ps {
			charge(t, b, p, s.d, false)
		}
		if want := s.bound() - int64(s.ps); s.d > 1 && b.Spent() != want || b.Spent() > s.bound() {
			t.Errorf("%v: %d spent; wanted %d", s, b.Spent(), want)
		}
		for p := range s.ps {
			ensure(t, b, p, false)
		}
	}
}

// TestAllSpent holds P12.4's other side: a quota is had to its end, in whatever pieces, and then no P is ensured.
func TestAllSpent(t *testing.T) {
	for _, s := range allTerms() {
		if s.quota > 100000 {
			continue
		}
		b := limited(t, s.ps, s.quota, s.slice)
		spent := int64(0)
		for again := true; again && spent <= s.quota; {
			again = false
			for p := range s.ps {
				if b.Ensure(p) {
					b.Charge(p, 1)
					spent++
					again = true
				}
			}
		}
		holds(t, b, true, 0, spent, make([]int64, s.ps)...)
		if spent != s.quota {
			t.Errorf("%v: %d spent", s, spent)
		}
	}
}

// TestNothingLost holds P12.4's last words of charges that nobody asked for, too: between two refills pool, local times, and what was spent stay as much together.
func TestNothingLost(t *testing.T) {
	for _, s := range allTerms() {
		c := &chance{uint64(s.quota) + 88172645463325252}
		b := limited(t, s.ps, s.quota, s.slice)
		for range 20 {
			has := s.quota + owed(b, s.ps)
			if n := all(b, s.ps); n != has {
				t.Fatalf("%v: refilled, pool, local times, and what was spent are %d; wanted %d", s, n, has)
			}
			for range 50 {
				p := int(c.below(int64(s.ps)))
				switch c.below(4) {
				case 0:
					b.Ensure(p)
				case 1:
					b.Return(p)
				default:
					b.Charge(p, c.upTo(longest))
				}
				if n := all(b, s.ps); n != has {
					t.Fatalf("%v: pool, local times, and what was spent are %d; wanted %d", s, n, has)
				}
			}
			b.Refill()
		}
	}
}
