package frontier_test

import (
	"testing"

	"frontier/api"
	"frontier/frontier"
)

func TestNewErrors(t *testing.T) {
	none := graphOf(1, src(), sum(0, 9))
	for _, workers := range []int{least, -2, -1, 0, 5, 6, 1 << 32, greatest} {
		mustNotBegin(t, example(), workers, api.ErrArg)
		mustNotBegin(t, knotted(), workers, api.ErrCycle)
		mustNotBegin(t, none, workers, api.ErrGraph)
		mustNotBegin(t, api.Graph{}, workers, api.ErrGraph)
	}
	for workers := 1; workers <= api.MaxWorkers; workers++ {
		mustBegin(t, example(), workers)
		mustNotBegin(t, knotted(), workers, api.ErrCycle)
		mustNotBegin(t, none, workers, api.ErrGraph)
		// A graph that is none, with a cycle in it.
		mustNotBegin(t, graphOf(5, add(0, 1)), workers, api.ErrGraph)
	}
}

func TestNewBegins(t *testing.T) {
	g := graphOf(4, sink(1), src(), src(), merge(1, 2), back(3), src(), once(5), sum(2, 8))
	for workers := 1; workers <= api.MaxWorkers; workers++ {
		r := mustBegin(t, g, workers)
		for w := 0; w < workers; w++ {
			mustView(t, r, w, out(1, 0, 0, workers), out(2, 0, 0, workers), out(5, 0, 0, workers))
			for n := range g.Nodes {
				mustWait(t, r, w, n)
			}
		}
		// Every Source is open, on every worker.
		for w := 0; w < workers; w++ {
			for _, n := range []int{1, 2, 5} {
				mustGive(t, r, w, n, 7)
			}
		}
		if _, errno := r.View(workers); errno != api.ErrArg {
			t.Errorf("P6: a run of %d workers has a worker %d", workers, workers)
		}
	}
}

func TestNewWithoutSources(t *testing.T) {
	r := mustBegin(t, graphOf(2, back(1), once(0), sink(1)), 3)
	for w := 0; w < 3; w++ {
		mustView(t, r, w)
		for n := 0; n < 3; n++ {
			mustWait(t, r, w, n)
			mustCome(t, r, w, n)
			mustAnswer(t, r.Give(w, n, 1), api.ErrArg)
		}
	}
}

// TestPutOutToAll lets nodes of all kinds take from one Source.
func TestPutOutToAll(t *testing.T) {
	g := graphOf(2, sink(3), add(3, 9), pass(3, 2, 1), src(), merge(3, 1), back(3), once(3), sum(3, 2))
	r := mustBegin(t, g, 3)
	mustGive(t, r, 1, 3, 5)
	mustGive(t, r, 2, 3, 8)
	mustGive(t, r, 1, 3, 6)
	for _, n := range []int{0, 1, 2, 4, 5} {
		mustWait(t, r, 0, n)
		mustWait(t, r, 1, n, messages(0, 5, 6)...)
		mustWait(t, r, 2, n, messages(0, 8)...)
	}
	mustWait(t, r, 0, 6, messages(0, 6)...)
	mustWait(t, r, 1, 6)
	mustWait(t, r, 2, 6, messages(0, 5, 8)...)
	mustWait(t, r, 0, 7, messages(0, 8, 6)...)
	mustWait(t, r, 1, 7, messages(0, 5)...)
	mustWait(t, r, 2, 7)
	for w := 0; w < 3; w++ {
		mustWait(t, r, w, 3)
	}
}

// TestPutOutOnlyToTakers has a Source and a Sink whose unnamed numbers are 0.
func TestPutOutOnlyToTakers(t *testing.T) {
	r := mustBegin(t, graphOf(1, src(), src(), sink(1), merge(1, 0)), 1)
	mustGive(t, r, 0, 0, 4)
	mustWait(t, r, 0, 1)
	mustWait(t, r, 0, 2)
	mustWait(t, r, 0, 3, messages(0, 4)...)
	mustGive(t, r, 0, 1, 6)
	mustWait(t, r, 0, 2, messages(0, 6)...)
	mustWait(t, r, 0, 3, messages(0, 4, 6)...)
}

// TestWorkerOfMessage finds, for each value, the one worker on which it waits.
func TestWorkerOfMessage(t *testing.T) {
	all := []int{least, least + 1, least + 2, -101, -9, -8, -7, -5, -4, -3, -2, -1, 0, 1, 2, 3, 4, 5, 7, 8, 9, 101, greatest - 1, greatest}
	for workers := 1; workers <= api.MaxWorkers; workers++ {
		for k := 1; k <= api.MaxGroups; k++ {
			for i, v := range all {
				r := mustBegin(t, graphOf(1, src(), once(0), sum(0, k)), workers)
				mustGive(t, r, i%workers, 0, v)
				mustWaitOnOne(t, r, workers, 1, wantedRest(v, workers), v)
				mustWaitOnOne(t, r, workers, 2, wantedRest(wantedRest(v, k), workers), v)
			}
		}
	}
	// By hand: -1 is in the group 4 of 5, and -7 in the group 3.
	r := mustBegin(t, graphOf(1, src(), once(0), sum(0, 5)), 3)
	mustGive(t, r, 2, 0, -1, -7)
	mustWait(t, r, 2, 1, messages(0, -1, -7)...)
	mustWait(t, r, 1, 2, messages(0, -1)...)
	mustWait(t, r, 0, 2, messages(0, -7)...)
}

func mustWaitOnOne(t *testing.T, r *frontier.Run, workers, n, on, v int) {
	t.Helper()
	for w := 0; w < workers; w++ {
		if w == on {
			mustWait(t, r, w, n, messages(0, v)...)
		} else {
			mustWait(t, r, w, n)
		}
	}
}

// TestNewKeepsNothing changes the graph that was handed in, ahead of and behind calls.
func TestNewKeepsNothing(t *testing.T) {
	g := roomy(example())
	r := mustBegin(t, g, 2)
	m := modelOf(example(), 2)
	mustGive(t, r, 1, 0, 3)
	m.give(1, 0, 3)
	for n := range withRoom(g).Nodes {
		withRoom(g).Nodes[n] = src()
	}
	g.Rounds = 1
	mustGive(t, r, 0, 0, 4)
	m.give(0, 0, 4)
	mustAnswer(t, r.Give(0, 1, 4), api.ErrArg)
	mustBeAs(t, r, m)
}

// TestNewWritesNothing looks at the graph that was handed in, behind all calls.
func TestNewWritesNothing(t *testing.T) {
	g := roomy(example())
	before := copyOf(withRoom(g))
	r := mustBegin(t, g, 2)
	for w := 0; w < 2; w++ {
		mustGive(t, r, w, 0, 1, 2, 3)
		mustAdvance(t, r, w, 0)
		mustClose(t, r, w, 0)
		r.View(w)
		for n := range g.Nodes {
			r.Waiting(w, n)
			r.Frontier(w, n)
		}
	}
	if !sameGraph(withRoom(g), before) {
		t.Errorf("P2: the graph %+v was written into: %+v", before, withRoom(g))
	}
}
