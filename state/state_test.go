package state_test

import (
	"math"
	"slices"
	"testing"

	"dole/api"
	"dole/state"
)

// States and events, by the document's words.
const (
	blocked, runnable, running, dead       = 1, 2, 3, 4
	wake, block, yield, exit, picked, down = 7, 8, 9, 10, 101, 102
)

// Errors, by the document's words.
const (
	ok       api.Errno = 0
	errArg   api.Errno = 1
	errState api.Errno = 7
)

func states() []int { return []int{blocked, runnable, running, dead} }

func events() []int { return []int{wake, block, yield, exit, picked, down} }

// noStates are numbers that are no states: those beside them, events, and those that a narrower kind of integer would bring back to one.
func noStates() []int { return others(states(), events()) }

// noEvents are likewise no events that a task has, among them the other kinds of events of a script.
func noEvents() []int { return others(events(), states()) }

// others are many numbers that are not in l, among them those of also.
func others(l, also []int) []int {
	out := slices.Concat(also, []int{math.MinInt, math.MinInt + 1, math.MaxInt, math.MaxInt - 1})
	for n := -300; n <= 300; n++ {
		out = append(out, n)
	}
	for _, n := range l {
		out = append(out, -n, ^n, n+math.MinInt)
		for i := 3; i < 63; i++ {
			out = append(out, n+1<<i, n-1<<i)
		}
	}
	return slices.DeleteFunc(out, func(n int) bool { return slices.Contains(l, n) })
}

// want is the state behind an event, by the chapter's words.
func want(s, event int) (int, api.Errno) {
	switch {
	case s < blocked || s > dead:
		return 0, errArg
	case (event < wake || event > exit) && event != picked && event != down:
		return 0, errArg
	case s == blocked && event == wake:
		return runnable, ok
	case s == runnable && event == picked:
		return running, ok
	case s == running && event == block:
		return blocked, ok
	case s == running && (event == yield || event == down):
		return runnable, ok
	case s == running && event == exit:
		return dead, ok
	}
	return 0, errState
}

// next holds Next to what it should say.
func next(t *testing.T, s, event, to int, e api.Errno) {
	t.Helper()
	if got, err := state.Next(s, event); got != to || err != e {
		t.Errorf("Next(%d, %d): %d, %d; wanted %d, %d", s, event, got, err, to, e)
	}
}

// script holds Script to what it should say, and the events to stay as they are.
func script(t *testing.T, l []int, s, n int, e api.Errno) {
	t.Helper()
	asked := slices.Clone(l)
	got, place, err := state.Script(l)
	if got != s || place != n || err != e {
		t.Fatalf("Script(%v): %d, %d, %d; wanted %d, %d, %d", asked, got, place, err, s, n, e)
	}
	if !slices.Equal(l, asked) {
		t.Fatalf("Script(%v) leaves %v of the events", asked, l)
	}
}

// TestNumbers holds both events that the chapter names to their numbers, and all that is asked of package api to the document's.
func TestNumbers(t *testing.T) {
	if state.Picked != picked || state.Down != down {
		t.Errorf("Picked is %d, Down %d", state.Picked, state.Down)
	}
	if got := []int{api.Blocked, api.Runnable, api.Running, api.Dead}; !slices.Equal(got, states()) {
		t.Errorf("the states are %v", got)
	}
	if got := []int{api.EvWake, api.EvBlock, api.EvYield, api.EvExit}; !slices.Equal(got, events()[:4]) {
		t.Errorf("the events are %v", got)
	}
	if got := []api.Errno{api.OK, api.ErrArg, api.ErrState}; !slices.Equal(got, []api.Errno{ok, errArg, errState}) {
		t.Errorf("the errors are %v", got)
	}
}

// TestNextAll holds P14.1 of each state and each event, by hand.
func TestNextAll(t *testing.T) {
	for _, r := range []struct {
		s  int
		to [6]int // behind EvWake, EvBlock, EvYield, EvExit, Picked, Down; 0: ErrState
	}{
		{blocked, [6]int{runnable, 0, 0, 0, 0, 0}},
		{runnable, [6]int{0, 0, 0, 0, running, 0}},
		{running, [6]int{0, blocked, runnable, dead, 0, runnable}},
		{dead, [6]int{}},
	} {
		for i, event := range events() {
			if r.to[i] == 0 {
				next(t, r.s, event, 0, errState)
			} else {
				next(t, r.s, event, r.to[i], ok)
			}
		}
	}
}

// TestNextNone holds P14.1 of wrong states, of wrong events, and of both: each is told ahead of what could not be done.
func TestNextNone(t *testing.T) {
	for _, s := range noStates() {
		for _, event := range append(noEvents(), events()...) {
			next(t, s, event, 0, errArg)
		}
	}
	for _, s := range states() {
		for _, event := range noEvents() {
			next(t, s, event, 0, errArg)
		}
	}
}

// TestNextKinds holds P14.1 of all kinds of events of a script: those alone that a task has.
func TestNextKinds(t *testing.T) {
	for event := api.EvGroup; event <= api.EvMask; event++ {
		e := errArg
		if event >= api.EvWake && event <= api.EvExit {
			e = errState
		}
		next(t, dead, event, 0, e)
	}
}

// TestNextNear holds P14.1 of all numbers near the states and the events, against the chapter's words.
func TestNextNear(t *testing.T) {
	for s := -130; s <= 130; s++ {
		for event := -130; event <= 130; event++ {
			to, e := want(s, event)
			next(t, s, event, to, e)
		}
	}
}

// TestNextBehind holds P14.4: nothing comes behind Dead, and a task runs only when it was picked, which it is only when it is Runnable.
func TestNextBehind(t *testing.T) {
	for _, event := range append(events(), noEvents()...) {
		if s, e := state.Next(dead, event); s != 0 || e == ok {
			t.Errorf("behind Dead %d: %d, %d", event, s, e)
		}
		for _, from := range states() {
			to, e := state.Next(from, event)
			if (to == running) != (from == runnable && event == picked) {
				t.Errorf("Next(%d, %d): %d, %d", from, event, to, e)
			}
			if event == picked && e == ok && from != runnable {
				t.Errorf("one of the state %d is picked", from)
			}
		}
	}
}

// TestExamples holds P14.2 to the chapter's example.
func TestExamples(t *testing.T) {
	script(t, []int{api.EvWake, state.Picked, api.EvYield}, runnable, 3, ok)
}

// TestScriptNamed holds P14.2 of scripts that are worked out by hand.
func TestScriptNamed(t *testing.T) {
	for _, r := range []struct {
		l    []int
		s, n int
		e    api.Errno
	}{
		{nil, blocked, 0, ok},
		{[]int{}, blocked, 0, ok},
		{[]int{wake, picked}[:0], blocked, 0, ok},
		{[]int{wake}, runnable, 1, ok},
		{[]int{wake, picked}, running, 2, ok},
		{[]int{wake, picked, exit}, dead, 3, ok},
		{[]int{wake, picked, block}, blocked, 3, ok},
		{[]int{wake, picked, down}, runnable, 3, ok},
		{[]int{wake, picked, block, wake, picked, yield, picked, down, picked, exit}, dead, 10, ok},
		// The first error, at each place of a script.
		{[]int{picked}, 0, 0, errState},
		{[]int{block, wake}, 0, 0, errState},
		{[]int{wake, wake}, 0, 1, errState},
		{[]int{wake, yield, picked}, 0, 1, errState},
		{[]int{wake, exit}, 0, 1, errState},
		{[]int{wake, picked, picked}, 0, 2, errState},
		{[]int{wake, picked, wake}, 0, 2, errState},
		{[]int{wake, picked, block, picked}, 0, 3, errState},
		{[]int{wake, picked, block, block, wake}, 0, 3, errState},
		{[]int{wake, picked, down, down}, 0, 3, errState},
		{[]int{wake, picked, exit, wake}, 0, 3, errState},
		{[]int{wake, picked, exit, exit}, 0, 3, errState},
		// What is no event of a task.
		{[]int{0}, 0, 0, errArg},
		{[]int{-1}, 0, 0, errArg},
		{[]int{wake, api.EvTick, picked}, 0, 1, errArg},
		{[]int{wake, picked, 103}, 0, 2, errArg},
		{[]int{wake, picked, exit, api.EvSpawn}, 0, 3, errArg},
		{[]int{math.MinInt, wake}, 0, 0, errArg},
		{[]int{wake, math.MaxInt}, 0, 1, errArg},
		// Of several errors the first one in turn, whichever it is.
		{[]int{wake, wake, 0}, 0, 1, errState},
		{[]int{wake, 0, wake}, 0, 1, errArg},
		{[]int{0, picked}, 0, 0, errArg},
		{[]int{picked, 0}, 0, 0, errState},
	} {
		script(t, r.l, r.s, r.n, r.e)
	}
}

// rows calls f with all rows of at most so many of these events, the shorter ones first, and of one length the lesser ones first if the events rise.
func rows(events []int, most int, f func(l []int)) {
	level := [][]int{nil}
	for range most + 1 {
		var longer [][]int
		for _, l := range level {
			f(l)
			for _, event := range events {
				longer = append(longer, append(slices.Clone(l), event))
			}
		}
		level = longer
	}
}

// wantScript is the state behind events, by the chapter's words.
func wantScript(l []int) (int, int, api.Errno) {
	s := blocked
	for i, event := range l {
		to, e := want(s, event)
		if e != ok {
			return 0, i, e
		}
		s = to
	}
	return s, len(l), ok
}

// TestScriptAll holds P14.2, and P14.4, of all scripts of at most six events of a task, or of four with some that are none.
func TestScriptAll(t *testing.T) {
	hold := func(l []int) {
		s, n, e := wantScript(l)
		script(t, l, s, n, e)
		for i := range l {
			behind, _, e := state.Script(l[:i+1])
			ahead, _, _ := state.Script(l[:i])
			switch {
			case e != ok:
				return
			case ahead == dead:
				t.Fatalf("Script(%v): something comes behind Dead", l[:i+1])
			case (behind == running) != (l[i] == picked && ahead == runnable):
				t.Fatalf("Script(%v): %d behind %d", l[:i+1], behind, ahead)
			}
		}
	}
	rows(events(), 6, hold)
	rows(append(events(), 0, -wake, api.EvTick, 103), 4, hold)
}

// TestScriptLong holds P14.2 of many events: no number of them is refused.
func TestScriptLong(t *testing.T) {
	turn := []int{wake, picked, yield, picked, down, picked, block}
	l := slices.Repeat(turn, 100000)
	script(t, l, blocked, len(l), ok)
	script(t, append(slices.Clone(l), wake), runnable, len(l)+1, ok)
	script(t, append(slices.Clone(l), wake, picked, exit), dead, len(l)+3, ok)
	script(t, append(slices.Clone(l), picked), 0, len(l), errState)
	script(t, append(slices.Clone(l), -1), 0, len(l), errArg)
	l[70001] = wake
	script(t, l, 0, 70001, errState)
}

// TestPathAll holds P14.3 of each state to each one, by hand.
func TestPathAll(t *testing.T) {
	for _, r := range []struct {
		from, to int
		want     []int
	}{
		{blocked, blocked, nil},
		{blocked, runnable, []int{wake}},
		{blocked, running, []int{wake, picked}},
		{blocked, dead, []int{wake, picked, exit}},
		{runnable, blocked, []int{picked, block}},
		{runnable, runnable, nil},
		{runnable, running, []int{picked}},
		{runnable, dead, []int{picked, exit}},
		{running, blocked, []int{block}},
		{running, runnable, []int{yield}}, // not Down, which is greater
		{running, running, nil},
		{running, dead, []int{exit}},
		{dead, blocked, nil},
		{dead, runnable, nil},
		{dead, running, nil},
		{dead, dead, nil},
	} {
		if got := state.Path(r.from, r.to); !slices.Equal(got, r.want) {
			t.Errorf("Path(%d, %d): %v; wanted %v", r.from, r.to, got, r.want)
		}
	}
}

// TestPathNone holds P14.3 where one of both is no state, or neither, or both are one number that is none.
func TestPathNone(t *testing.T) {
	for _, n := range noStates() {
		for _, s := range append(states(), n, 0, dead+1) {
			if l := state.Path(n, s); len(l) != 0 {
				t.Errorf("Path(%d, %d): %v", n, s, l)
			}
			if l := state.Path(s, n); len(l) != 0 {
				t.Errorf("Path(%d, %d): %v", s, n, l)
			}
		}
	}
}

// TestPathFewest holds P14.3 against all rows of at most five events: the first one that comes there is the one to tell.
func TestPathFewest(t *testing.T) {
	for _, from := range states() {
		first := map[int][]int{from: nil}
		rows(events(), 5, func(l []int) {
			s := from
			for _, event := range l {
				to, e := want(s, event)
				if e != ok {
					return
				}
				s = to
			}
			if _, is := first[s]; !is {
				first[s] = l
			}
		})
		for _, to := range states() {
			if got := state.Path(from, to); !slices.Equal(got, first[to]) {
				t.Errorf("Path(%d, %d): %v; wanted %v", from, to, got, first[to])
			}
		}
	}
}

// TestPathWalked holds P14.3 and P14.1 together: each path is one that Next goes.
func TestPathWalked(t *testing.T) {
	for _, from := range states() {
		for _, to := range states() {
			s := from
			l := state.Path(from, to)
			for _, event := range l {
				behind, e := state.Next(s, event)
				if e != ok {
					t.Fatalf("Path(%d, %d): %v, of which %d is the error %d", from, to, l, event, e)
				}
				s = behind
			}
			if len(l) > 0 && s != to {
				t.Errorf("Path(%d, %d): %v, which comes to %d", from, to, l, s)
			}
		}
	}
}

// TestPathShares holds R3: what is told is the caller's own.
func TestPathShares(t *testing.T) {
	for _, from := range states() {
		for _, to := range states() {
			first, second := state.Path(from, to), state.Path(from, to)
			kept := slices.Clone(second)
			for i := range first {
				first[i] = 99
			}
			_ = append(first[:0], 98, 97, 96)
			if third := state.Path(from, to); !slices.Equal(second, kept) || !slices.Equal(third, kept) {
				t.Errorf("Path(%d, %d): %v, then %v, behind a change of another answer", from, to, second, third)
			}
		}
	}
}

// TestAgain holds R4: what was asked ahead changes no answer.
func TestAgain(t *testing.T) {
	for range 3 {
		next(t, blocked, wake, runnable, ok)
		next(t, dead, wake, 0, errState)
		next(t, 0, wake, 0, errArg)
		script(t, []int{wake, picked, exit, wake}, 0, 3, errState)
		script(t, []int{wake}, runnable, 1, ok)
		if l := state.Path(blocked, dead); !slices.Equal(l, []int{wake, picked, exit}) {
			t.Fatalf("Path(%d, %d): %v", blocked, dead, l)
		}
	}
}
