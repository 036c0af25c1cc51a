package sched

import (
	"math"
	"testing"

	"dole/api"
)

// lone is a scheduler of one P, with a task in a group with a limit. By calls alone no test comes to the ends that these tests set.
func lone(t *testing.T) *Sched {
	t.Helper()
	s, err := New(Config{Ps: 1, Tick: 1000, Latency: 1000})
	if err != api.OK {
		t.Fatalf("New: %d", err)
	}
	for _, e := range []api.Event{{Kind: api.EvGroup, N: 1024}, {Kind: api.EvQuota, A: 1, N: 5000, M: 5000}, {Kind: api.EvSpawn, A: 1, Mask: 1}} {
		if a := s.Do(e); a.Err != api.OK {
			t.Fatalf("Do(%v): %v", e, a)
		}
	}
	return s
}

// TestCreditFull holds P22.2 of EvTick: the ledger's error, where all time together would be beyond 2^63-1; with it nothing is changed.
func TestCreditFull(t *testing.T) {
	s := lone(t)
	s.book.Credit(nil, 99, math.MaxInt64-10)
	for _, step := range []struct {
		ns   int64
		want Answer
		had  int64
	}{
		{11, Answer{Err: api.ErrFull}, 0},
		{1000, Answer{Err: api.ErrFull}, 0},
		{1001, Answer{Err: api.ErrTick}, 0},
		{7, Answer{}, 7},
		{4, Answer{Err: api.ErrFull}, 7},
		{3, Answer{}, 10},
		{1, Answer{Err: api.ErrFull}, 10},
		{0, Answer{}, 10},
	} {
		if a := s.Do(api.Event{Kind: api.EvTick, N: step.ns}); a != step.want {
			t.Fatalf("a tick of %d: %v; wanted %v", step.ns, a, step.want)
		}
		busy, idle := s.Times(0)
		g := s.Group(1)
		v := s.cpus[0].queues.Queue(1)[0].V
		if s.Task(0).Ns != step.had || g.Ns != step.had || s.Group(0).Ns != step.had || g.Spent != step.had || v != step.had || busy != uint64(step.had) || idle != 0 {
			t.Fatalf("behind a tick of %d: %+v, %+v, V %d, busy %d; wanted %d", step.ns, s.Task(0), g, v, busy, step.had)
		}
	}
	// Nobody's time is no ledger's.
	if a := s.Do(api.Event{Kind: api.EvBlock}); a != (Answer{}) {
		t.Fatalf("block: %v", a)
	}
	if a := s.Do(api.Event{Kind: api.EvTick, N: 1000}); a != (Answer{N: -1}) {
		t.Errorf("a tick of nobody: %v", a)
	}
}

// TestFlag holds P22.3 of Flag: whether a V ran over, in any queue of any P.
func TestFlag(t *testing.T) {
	for p := range 3 {
		s, _ := New(Config{Ps: 3, Tick: 1000, Latency: 1000})
		for _, e := range []api.Event{{Kind: api.EvGroup, N: 1024}, {Kind: api.EvSpawn, A: 1, Mask: 1 << p}, {Kind: api.EvBlock, A: p}} {
			s.Do(e)
		}
		s.findTask(0).ent.V = math.MaxInt64 - 5
		for _, step := range []struct {
			e    api.Event
			want bool
		}{
			{api.Event{Kind: api.EvWake}, false},
			{api.Event{Kind: api.EvTick, A: p, N: 5}, false},
			{api.Event{Kind: api.EvTick, A: p, N: 1}, true},
			{api.Event{Kind: api.EvExit, A: p}, true},
			{api.Event{Kind: api.EvDrop, A: 1}, false}, // that queue is no more
		} {
			if a := s.Do(step.e); a.Err != api.OK || s.Flag() != step.want {
				t.Fatalf("Do(%v): %v, then the flag %v", step.e, a, s.Flag())
			}
		}
	}
}

// TestZero holds P1: a zero scheduler, which nobody asks, answers as a nil one does.
func TestZero(t *testing.T) {
	s := &Sched{}
	for kind := range deeds() {
		if a := s.Do(api.Event{Kind: kind, Mask: 1}); a != (Answer{Err: api.ErrArg}) {
			t.Errorf("kind %d: %v", kind, a)
		}
	}
	if s.Running(0) != -1 || s.Task(0) != (TaskStat{}) || s.Group(0) != (GroupStat{}) || s.Tasks() != 0 || s.Groups() != 0 || len(s.Loads()) != 0 || s.Flag() {
		t.Error("a zero scheduler has something")
	}
	if _, is := s.Behind(0); is {
		t.Error("Behind of a zero scheduler's task")
	}
	if busy, idle := s.Times(0); busy != 0 || idle != 0 {
		t.Errorf("Times: %d, %d", busy, idle)
	}
}

// TestDeeds holds the way that the document asks for: each kind has its own row.
func TestDeeds(t *testing.T) {
	l := deeds()
	if len(l) != api.EvMask {
		t.Errorf("%d rows", len(l))
	}
	for kind := api.EvGroup; kind <= api.EvMask; kind++ {
		if l[kind] == nil {
			t.Errorf("kind %d has none", kind)
		}
	}
}
