package frontier_test

import (
	"testing"

	"frontier/api"
	"frontier/frontier"
)

// mustHaveActions begins the same run again and again, and does each action of it first.
func mustHaveActions(t *testing.T, begin func() *frontier.Run, want ...api.Event) {
	t.Helper()
	mustAct(t, begin(), len(want))
	for k := range want {
		mustDo(t, begin(), k, want[k])
	}
	for _, k := range []int{least, -1 << 32, -2, -1, len(want), len(want) + 1, 1 << 32, greatest} {
		mustNotDo(t, begin(), k)
	}
}

func TestNoActions(t *testing.T) {
	for _, g := range []api.Graph{example(), graphOf(1, src()), graphOf(2, back(0)), graphOf(2, sum(1, 2), once(2), back(1))} {
		for workers := 1; workers <= api.MaxWorkers; workers++ {
			mustHaveActions(t, func() *frontier.Run { return mustBegin(t, g, workers) })
		}
	}
}

// threeSums has two Sums that take from a Source and one that does a round later.
func threeSums() api.Graph {
	return graphOf(2, sum(1, 3), src(), sink(0), sum(1, 2), back(1), sum(4, 1), sink(3))
}

// beginThreeSums is a run with wanted times, of which worker 0 knows that its Sources
// are past them, with messages that wait everywhere, and with changes on their way.
func beginThreeSums(t *testing.T) *frontier.Run {
	t.Helper()
	r := mustBegin(t, threeSums(), 3)
	mustGive(t, r, 0, 1, 6)
	mustDo(t, r, 0, work(0, 0, 0, 0, 0, 6))
	mustDo(t, r, 0, work(0, 3, 0, 0, 0, 6))
	mustAdvance(t, r, 0, 1)
	mustGive(t, r, 0, 1, 3, 12)
	mustDo(t, r, 1, work(0, 0, 1, 1, 0, 12))
	mustDo(t, r, 0, work(0, 0, 0, 1, 0, 3))
	mustDo(t, r, 0, work(0, 3, 0, 1, 0, 12))
	mustAdvance(t, r, 0, 1)
	for _, w := range []int{1, 2} {
		mustAdvance(t, r, w, 1)
		mustAdvance(t, r, w, 1)
	}
	// Behind three messages that wait in the Back; then two times can be notified of too.
	mustDo(t, r, 3, tell(0, 1))
	mustDo(t, r, 3, tell(0, 1))
	mustDo(t, r, 3, tell(0, 2))
	mustDo(t, r, 5, tell(0, 2))
	mustGive(t, r, 1, 1, 4)
	mustGive(t, r, 2, 1, 5)
	return r
}

func TestActionsInOrder(t *testing.T) {
	mustHaveActions(t, func() *frontier.Run { return beginThreeSums(t) },
		work(0, 3, 0, 2, 0, 4),
		work(0, 4, 0, 0, 0, 6),
		work(0, 4, 1, 1, 0, 3),
		work(0, 4, 2, 1, 0, 12),
		notify(0, 0, 0, 0),
		notify(0, 0, 1, 0),
		// Not of (1, 0): the worker 1 has not worked at the 3.
		notify(0, 3, 0, 0),
		tell(0, 1),
		tell(0, 2),
		work(1, 0, 0, 2, 0, 4),
		work(1, 3, 0, 1, 0, 3),
		work(1, 3, 1, 2, 0, 5),
		work(1, 4, 0, 2, 0, 4),
		tell(1, 0),
		tell(1, 2),
		work(2, 0, 0, 2, 0, 5),
		work(2, 4, 0, 2, 0, 5),
		tell(2, 0),
		tell(2, 1),
	)
}

// TestActionsOfOneNode: messages of one node are in the order in which they came, not of their times or values.
func TestActionsOfOneNode(t *testing.T) {
	begin := func() *frontier.Run {
		r := mustBegin(t, graphOf(1, src(), src(), merge(1, 0)), 1)
		mustAdvance(t, r, 0, 0)
		mustGive(t, r, 0, 0, 9, 9)
		mustGive(t, r, 0, 1, 9, -3)
		mustGive(t, r, 0, 0, 1)
		return r
	}
	mustHaveActions(t, begin, work(0, 2, 0, 1, 0, 9), work(0, 2, 1, 1, 0, 9), work(0, 2, 2, 0, 0, 9), work(0, 2, 3, 0, 0, -3), work(0, 2, 4, 1, 0, 1))
}

// TestNotifyWaitsForFrontier: a wanted time is no action as long as a time up to it can come, as the worker knows.
func TestNotifyWaitsForFrontier(t *testing.T) {
	r := mustBegin(t, graphOf(3, src(), back(0), src(), merge(1, 2), sum(3, 1)), 1)
	mustGive(t, r, 0, 0, 1)
	mustGive(t, r, 0, 2, 2)
	mustAdvance(t, r, 0, 0)
	mustGive(t, r, 0, 0, 3)
	mustDo(t, r, 0, work(0, 1, 0, 0, 0, 1))
	mustDo(t, r, 0, work(0, 1, 0, 1, 0, 3))
	// Both messages of the Back, and the one of the second Source, wait in the Merge.
	mustDo(t, r, 0, work(0, 3, 0, 0, 0, 2))
	mustDo(t, r, 0, work(0, 3, 0, 0, 1, 1))
	mustDo(t, r, 0, work(0, 3, 0, 1, 1, 3))
	mustDo(t, r, 1, work(0, 4, 1, 0, 1, 1))
	mustDo(t, r, 1, work(0, 4, 1, 1, 1, 3))
	mustDo(t, r, 0, work(0, 4, 0, 0, 0, 2))
	mustView(t, r, 0, out(0, 1, 0, 1), out(2, 0, 0, 1), out(4, 0, 0, 1), out(4, 0, 1, 1), out(4, 1, 1, 1))
	mustCome(t, r, 0, 4, when(0, 0))
	mustAct(t, r, 0)
	mustAdvance(t, r, 0, 2)
	// (1, 0) is up to (1, 1), not to (0, 1).
	mustCome(t, r, 0, 4, when(1, 0))
	mustAct(t, r, 2)
	mustAdvance(t, r, 0, 2)
	mustCome(t, r, 0, 4, when(1, 1), when(2, 0))
	mustAct(t, r, 2)
	mustDo(t, r, 0, notify(0, 4, 0, 0))
	mustAct(t, r, 1)
	mustAdvance(t, r, 0, 0)
	mustCome(t, r, 0, 4, when(2, 0))
	mustAct(t, r, 2)
	mustDo(t, r, 1, notify(0, 4, 1, 1))
	mustDo(t, r, 0, notify(0, 4, 0, 1))
	mustAct(t, r, 0)
	mustView(t, r, 0, out(0, 2, 0, 1), out(2, 2, 0, 1))
}

// TestNotifyWaitsForTell: that another worker's Source is closed is not known before it is told.
func TestNotifyWaitsForTell(t *testing.T) {
	r := mustBegin(t, graphOf(1, src(), sum(0, 2), sink(1)), 2)
	mustGive(t, r, 0, 0, 2, 3)
	mustClose(t, r, 0, 0)
	mustClose(t, r, 1, 0)
	mustDo(t, r, 0, work(0, 1, 0, 0, 0, 2))
	mustAct(t, r, 3)
	mustDo(t, r, 0, tell(0, 1))
	// The 3 waits on the worker 1: worker 0 put it out, so it knows of it.
	mustCome(t, r, 0, 1, when(0, 0))
	mustAct(t, r, 2)
	mustDo(t, r, 0, work(1, 1, 0, 0, 0, 3))
	mustAct(t, r, 2)
	mustDo(t, r, 0, tell(0, 1))
	mustCome(t, r, 0, 1)
	mustAct(t, r, 2)
	// Worker 1 was told nothing, so it is not notified of the same time.
	mustDo(t, r, 0, notify(0, 1, 0, 0))
	mustWait(t, r, 0, 2, messages(0, 2)...)
	mustWait(t, r, 1, 2)
	mustAct(t, r, 2)
	for told := 0; told < 4; told++ {
		mustAct(t, r, 2)
		mustDo(t, r, 1, tell(1, 0))
	}
	mustView(t, r, 1, out(1, 0, 0, 2))
	mustAct(t, r, 3)
	mustDo(t, r, 2, tell(1, 0))
	mustView(t, r, 1, out(1, 0, 0, 1), in(2, 0, 0, 1))
	mustDo(t, r, 1, notify(1, 1, 0, 0))
	mustWait(t, r, 1, 2, messages(0, 3)...)
}

// TestTellIsOneEach: however many changes of a worker are on their way, there is one TELL of them.
func TestTellIsOneEach(t *testing.T) {
	r := mustBegin(t, graphOf(1, src()), 4)
	mustGive(t, r, 2, 0, 1, 2, 3)
	mustAct(t, r, 3)
	mustGive(t, r, 1, 0, 1)
	mustAct(t, r, 6)
	for _, want := range []api.Event{tell(0, 1), tell(0, 2), tell(0, 2), tell(0, 2), tell(1, 2), tell(1, 2), tell(1, 2), tell(2, 1), tell(3, 1), tell(3, 2), tell(3, 2), tell(3, 2)} {
		mustDo(t, r, 0, want)
	}
	mustAct(t, r, 0)
}

// TestWrongNumbersOfActions: with an error nothing is changed.
func TestWrongNumbersOfActions(t *testing.T) {
	r := beginThreeSums(t)
	before := look(r, 3, 7)
	for _, k := range []int{least, least + 1, -1 << 33, -1 << 32, -20, -19, -1, 19, 20, 21, 38, 1 << 32, 1<<32 + 1, greatest - 1, greatest} {
		mustNotDo(t, r, k)
		if !before.same(look(r, 3, 7)) {
			t.Fatalf("P1: Do(%d), which answers an error, changed the run", k)
		}
	}
	// What is hidden is not changed either: the run goes on as one in which no wrong number was tried.
	other := beginThreeSums(t)
	d := &dice{state: 11}
	for r.Actions() > 0 {
		k := d.below(r.Actions())
		mustNotDo(t, r, r.Actions())
		mustNotDo(t, r, -1)
		event, _ := r.Do(k)
		mustDo(t, other, k, event)
	}
	if !look(r, 3, 7).same(look(other, 3, 7)) {
		t.Errorf("P1: a Do with an error changed the run")
	}
}
