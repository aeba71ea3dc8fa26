package frontier_test

import (
	"testing"

	"frontier/api"
)

func TestKnowingErrors(t *testing.T) {
	r := mustBegin(t, example(), 2)
	mustGive(t, r, 0, 0, 1)
	for _, wrong := range []int{least, -2, -1, 7, 8, 9, greatest} {
		list, errno := r.View(wrong)
		if list != nil || errno != api.ErrArg {
			t.Errorf("P9: View(%d) = %+v, %d, want nil, ErrArg", wrong, list, errno)
		}
		for _, c := range [][2]int{{wrong, 0}, {wrong, 1}, {0, wrong}, {1, wrong}, {wrong, wrong}} {
			times, errno := r.Frontier(c[0], c[1])
			if times != nil || errno != api.ErrArg {
				t.Errorf("P9: Frontier(%d, %d) = %+v, %d, want nil, ErrArg", c[0], c[1], times, errno)
			}
		}
	}
	for _, w := range []int{2, 3, 4} {
		list, errno := r.View(w)
		times, other := r.Frontier(w, 1)
		if list != nil || times != nil || errno != api.ErrArg || other != api.ErrArg {
			t.Errorf("P9: the worker %d, who is none, knows %+v, %d, and %+v, %d", w, list, errno, times, other)
		}
	}
}

func TestKnowingExample(t *testing.T) {
	r := mustBegin(t, example(), 1)
	mustGive(t, r, 0, 0, 1)
	mustView(t, r, 0, out(0, 0, 0, 1), in(1, 0, 0, 1))
	mustCome(t, r, 0, 5, when(0, 0))
	r = mustBegin(t, example(), 2)
	mustGive(t, r, 0, 0, 1)
	mustView(t, r, 0, out(0, 0, 0, 2), in(1, 0, 0, 1))
	mustView(t, r, 1, out(0, 0, 0, 2))
}

// TestViewOfSeveralWorkers has counts of none, one and more, that differ by worker.
func TestViewOfSeveralWorkers(t *testing.T) {
	g := graphOf(1, src(), once(0), src(), sum(2, 4))
	r := mustBegin(t, g, 4)
	mustGive(t, r, 0, 0, 5, 5, 6)
	mustGive(t, r, 3, 2, -1)
	mustAdvance(t, r, 3, 2)
	mustGive(t, r, 3, 2, -1, 2)
	mustClose(t, r, 1, 0)
	mustAdvance(t, r, 1, 2)
	mustClose(t, r, 1, 2)
	// What a worker puts out to another is believed by the one that does it, not by the other.
	mustView(t, r, 0, out(0, 0, 0, 4), in(1, 0, 0, 3), out(2, 0, 0, 4))
	mustView(t, r, 1, out(0, 0, 0, 3), out(2, 0, 0, 3))
	mustView(t, r, 2, out(0, 0, 0, 4), out(2, 0, 0, 4))
	mustView(t, r, 3, out(0, 0, 0, 4), out(2, 0, 0, 3), out(2, 1, 0, 1), in(3, 0, 0, 1), in(3, 1, 0, 2))
	mustWait(t, r, 1, 1, messages(0, 5, 5)...)
	mustWait(t, r, 2, 1, messages(0, 6)...)
}

func TestViewOfNothing(t *testing.T) {
	r := mustBegin(t, graphOf(1, src(), src(), sink(1)), 1)
	// None takes from this Source, so what it is given is no point anywhere.
	mustGive(t, r, 0, 0, 5)
	mustView(t, r, 0, out(0, 0, 0, 1), out(1, 0, 0, 1))
	mustAdvance(t, r, 0, 0)
	mustClose(t, r, 0, 0)
	mustView(t, r, 0, out(1, 0, 0, 1))
	mustClose(t, r, 0, 1)
	mustView(t, r, 0)
	for n := 0; n < 3; n++ {
		mustCome(t, r, 0, n)
	}
}

// TestFrontierOfOthers: a worker that was told nothing thinks that all can come
// still, and one whose own Sources are closed thinks so of the others'.
func TestFrontierOfOthers(t *testing.T) {
	g := graphOf(2, src(), back(0), sink(1))
	r := mustBegin(t, g, 2)
	mustAdvance(t, r, 0, 0)
	mustAdvance(t, r, 0, 0)
	mustCome(t, r, 0, 2, when(0, 1))
	mustClose(t, r, 0, 0)
	mustClose(t, r, 1, 0)
	for w := 0; w < 2; w++ {
		mustCome(t, r, w, 0)
		mustCome(t, r, w, 1, when(0, 0))
		mustCome(t, r, w, 2, when(0, 1))
	}
}

// TestFrontierLeast has three Sources, 2, 1 and 0 rounds away from the Sink.
func TestFrontierLeast(t *testing.T) {
	g := graphOf(4, src(), back(0), src(), merge(1, 2), back(3), src(), merge(4, 5), sink(6))
	r := mustBegin(t, g, 1)
	mustCome(t, r, 0, 7, when(0, 0))
	mustAdvance(t, r, 0, 5)
	mustCome(t, r, 0, 7, when(0, 1), when(1, 0))
	mustAdvance(t, r, 0, 2)
	mustCome(t, r, 0, 7, when(0, 2), when(1, 0))
	mustAdvance(t, r, 0, 5)
	mustCome(t, r, 0, 7, when(0, 2), when(1, 1), when(2, 0))
	mustCome(t, r, 0, 4, when(0, 1), when(1, 0))
	mustCome(t, r, 0, 1, when(0, 0))
	mustCome(t, r, 0, 5)
	// What waits in a Back has a round ahead of it, as what the Source puts out.
	mustGive(t, r, 0, 0, 3)
	mustClose(t, r, 0, 0)
	mustCome(t, r, 0, 7, when(0, 2), when(1, 1), when(2, 0))
	mustCome(t, r, 0, 1, when(0, 0))
	mustClose(t, r, 0, 2)
	mustCome(t, r, 0, 7, when(0, 2), when(2, 0))
	mustClose(t, r, 0, 5)
	mustCome(t, r, 0, 7, when(0, 2))
	mustCome(t, r, 0, 6, when(0, 2))
	mustCome(t, r, 0, 3, when(0, 1))
}

// TestFrontierRounds: a time whose round there is not cannot come.
func TestFrontierRounds(t *testing.T) {
	nodes := []api.Node{src(), back(0), back(1), back(2), sink(3)}
	for rounds := 1; rounds <= api.MaxRounds; rounds++ {
		r := mustBegin(t, graphOf(rounds, nodes...), 1)
		for pass := 0; pass < 2; pass++ {
			for n := 1; n < len(nodes); n++ {
				if n-1 < rounds {
					mustCome(t, r, 0, n, when(0, n-1))
				} else {
					mustCome(t, r, 0, n)
				}
			}
			// The same from what waits in the first Back.
			if pass == 0 {
				mustGive(t, r, 0, 0, 1)
				mustClose(t, r, 0, 0)
			}
		}
	}
}

// TestFrontierOnCycles: what waits can come where it waits, a round ahead of where the cycle brings it.
func TestFrontierOnCycles(t *testing.T) {
	r := mustBegin(t, graphOf(3, src(), merge(0, 3), add(1, 1), back(2), sink(3)), 1)
	mustGive(t, r, 0, 0, 1)
	mustClose(t, r, 0, 0)
	mustCome(t, r, 0, 0)
	mustCome(t, r, 0, 1, when(0, 0))
	mustCome(t, r, 0, 2, when(0, 0))
	mustCome(t, r, 0, 3, when(0, 0))
	mustCome(t, r, 0, 4, when(0, 1))
	// A Back that takes from itself gets nothing ever.
	r = mustBegin(t, graphOf(3, src(), back(1), sink(1)), 1)
	mustCome(t, r, 0, 1)
	mustCome(t, r, 0, 2)
}

// TestFrontierIsNoOrder: in order of times an epoch goes ahead, but a later
// epoch with the same round is no least time.
func TestFrontierIsNoOrder(t *testing.T) {
	g := graphOf(2, src(), sink(0))
	r := mustBegin(t, g, 1)
	mustGive(t, r, 0, 0, 1)
	mustAdvance(t, r, 0, 0)
	mustAdvance(t, r, 0, 0)
	mustGive(t, r, 0, 0, 1)
	mustCome(t, r, 0, 1, when(0, 0))
	r = mustBegin(t, g, 1)
	for epoch := 1; epoch <= api.MaxEpoch; epoch++ {
		mustAdvance(t, r, 0, 0)
		mustCome(t, r, 0, 1, when(epoch, 0))
	}
}

// TestManyRuns makes calls by dice and tests each answer, and all that can be
// seen, against the model.
func TestManyRuns(t *testing.T) {
	d := &dice{state: 6}
	var met [6]int
	several := 0
	for i := 0; i < 8000; i++ {
		g := d.graph()
		// Graphs with several Sources at several distances seldom come by dice.
		if i%20 == 0 {
			g = graphOf(1+d.below(4), src(), back(0), src(), merge(1, 2), back(3), src(), merge(4, 5), sum(6, 3))
		}
		if i%20 == 1 {
			g = graphOf(1+d.below(4), once(1), merge(2, 3), src(), back(4), merge(5, 6), back(7), src(), src())
		}
		if wantedErrno(g) != api.OK {
			continue
		}
		workers := 1 + d.below(api.MaxWorkers)
		r := mustBegin(t, g, workers)
		m := modelOf(g, workers)
		for calls := d.below(100); calls > 0; calls-- {
			// One more than there are, so that errors are met too.
			w, n, v := d.below(workers+1), d.below(len(g.Nodes)+1), d.below(30)-15
			for tries := 0; tries < 5 && m.sourceErrno(w, n) == api.ErrArg; tries++ {
				w, n = d.below(workers), d.below(len(g.Nodes))
			}
			var errno, want api.Errno
			switch d.below(20) {
			case 0:
				errno, want = r.Close(w, n), m.close(w, n)
			case 1, 2, 3, 4, 5:
				errno, want = r.Advance(w, n), m.advance(w, n)
			default:
				errno, want = r.Give(w, n, v), m.give(w, n, v)
			}
			mustAnswer(t, errno, want)
			met[want]++
		}
		mustBeAs(t, r, m)
		for w := 0; w < workers; w++ {
			for n := range g.Nodes {
				if len(m.frontier(w, n)) > 1 {
					several++
				}
			}
		}
		if t.Failed() {
			t.Fatalf("of %+v with %d workers", g, workers)
		}
	}
	for _, errno := range []api.Errno{api.OK, api.ErrArg, api.ErrClosed, api.ErrRoom} {
		if met[errno] < 500 {
			t.Errorf("only %d answers %d were met", met[errno], errno)
		}
	}
	if several < 100 {
		t.Errorf("only %d frontiers with several times were met", several)
	}
}
