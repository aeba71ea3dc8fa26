package frontier_test

import (
	"slices"
	"testing"

	"frontier/api"
	"frontier/frontier"
)

// TestRunCallsEnd makes the calls of runs with wild numbers: P1 is broken by a
// panic, by a call that does not end, and by a result beside an error.
func TestRunCallsEnd(t *testing.T) {
	wild := []int{least, least + 1, -1 << 32, -9, -1, 0, 0, 0, 1, 1, 2, 2, 3, 4, 5, 6, 7, 8, 9, 1 << 32, greatest - 1, greatest}
	d := &dice{state: 7}
	any := func() int { return wild[d.below(len(wild))] }
	began := 0
	for i := 0; i < 6000; i++ {
		g := d.graph()
		if d.below(4) == 0 {
			g.Nodes[d.below(len(g.Nodes))] = api.Node{Kind: any(), A: any(), B: any(), K: any(), M: any()}
		}
		workers := any()
		r, errno := frontier.New(g, workers)
		if want := wantedBeginning(g, workers); errno != want || (r != nil) != (want == api.OK) {
			t.Fatalf("P1: New(%+v, %d) = %v, %d, want %d", g, workers, r, errno, want)
		}
		if r == nil {
			continue
		}
		began++
		m := modelOf(g, workers)
		for calls := 0; calls < 80; calls++ {
			mustAnswerAs(t, r, m, any(), any(), any())
		}
		mustBeAs(t, r, m)
	}
	if began < 200 {
		t.Errorf("only %d runs were tried", began)
	}
}

func wantedBeginning(g api.Graph, workers int) api.Errno {
	if errno := wantedErrno(g); errno != api.OK {
		return errno
	}
	if workers < 1 || workers > 4 {
		return api.ErrArg
	}
	return api.OK
}

// mustAnswerAs makes every call with the same numbers; Close seldom, or nothing would stay open.
func mustAnswerAs(t *testing.T, r *frontier.Run, m *model, w, n, v int) {
	t.Helper()
	mustAnswer(t, r.Give(w, n, v), m.give(w, n, v))
	mustAnswer(t, r.Advance(w, n), m.advance(w, n))
	if v == 9 {
		mustAnswer(t, r.Close(w, n), m.close(w, n))
	}
	mustDoAs(t, r, m, v)
	isWorker := w >= 0 && w < m.workers
	isNode := n >= 0 && n < len(m.g.Nodes)
	waiting, errno := r.Waiting(w, n)
	if (errno == api.OK) != (isWorker && isNode) || errno != api.OK && (waiting != nil || errno != api.ErrArg) {
		t.Errorf("P1: Waiting(%d, %d) = %+v, %d", w, n, waiting, errno)
	}
	times, errno := r.Frontier(w, n)
	if (errno == api.OK) != (isWorker && isNode) || errno != api.OK && (times != nil || errno != api.ErrArg) {
		t.Errorf("P1: Frontier(%d, %d) = %+v, %d", w, n, times, errno)
	}
	view, errno := r.View(w)
	if (errno == api.OK) != isWorker || errno != api.OK && (view != nil || errno != api.ErrArg) {
		t.Errorf("P1: View(%d) = %+v, %d", w, view, errno)
	}
}

// mustDoAs does the action with the same number, if there is one, in the run and in the model.
func mustDoAs(t *testing.T, r *frontier.Run, m *model, k int) api.Event {
	t.Helper()
	b := twin{t: t, r: r, m: m}
	return b.do(k)
}

// TestListsOfRunsAreTheCallers writes over each list that came out, between calls.
func TestListsOfRunsAreTheCallers(t *testing.T) {
	g := graphOf(3, src(), back(0), src(), merge(1, 2), once(3), sum(2, 2), sink(5), sink(4))
	r := mustBegin(t, g, 2)
	m := modelOf(g, 2)
	d := &dice{state: 9}
	for i := 0; i < api.MaxGiven || r.Actions() > 0; i++ {
		w, n := i%2, i/3%2*2
		mustAnswer(t, r.Give(w, n, i-9), m.give(w, n, i-9))
		if i%5 == 4 {
			mustAnswer(t, r.Advance(w, n), m.advance(w, n))
		}
		mustDoAs(t, r, m, d.below(r.Actions()+1))
		kept := look(r, 2, len(g.Nodes))
		again := look(r, 2, len(g.Nodes))
		overwrite(again.out, record(-77, -77, -77, -77, -77))
		for j := range again.views {
			overwrite(again.views[j], in(-77, -77, -77, -77))
		}
		for j := range again.waiting {
			overwrite(again.waiting[j], api.Message{Epoch: -77, Round: -77, Value: -77})
			overwrite(again.frontier[j], when(-77, -77))
		}
		if !kept.same(look(r, 2, len(g.Nodes))) {
			t.Fatalf("P2: what was written into lists that came out is seen in others")
		}
		mustBeAs(t, r, m)
	}
	if len(r.Out()) < 5 {
		t.Errorf("only %d records came out", len(r.Out()))
	}
}

// TestListsOfRunsStay looks at lists that came out, behind calls that change the run.
func TestListsOfRunsStay(t *testing.T) {
	r := mustBegin(t, example(), 1)
	mustGive(t, r, 0, 0, 1, 2, 3)
	waiting, _ := r.Waiting(0, 1)
	view, _ := r.View(0)
	times, _ := r.Frontier(0, 1)
	room := waiting[:cap(waiting)]
	roomBefore := append([]api.Message(nil), room...)
	// What is worked at makes room in the run, not in the list.
	mustDo(t, r, 1, work(0, 1, 1, 0, 0, 2))
	mustDo(t, r, 0, work(0, 1, 0, 0, 0, 1))
	mustGive(t, r, 0, 0, 4, 5)
	mustAdvance(t, r, 0, 0)
	mustClose(t, r, 0, 0)
	mustWait(t, r, 0, 1, messages(0, 3, 4, 5)...)
	for r.Actions() > 0 {
		r.Do(0)
	}
	if !slices.Equal(waiting, messages(0, 1, 2, 3)) || !slices.Equal(room, roomBefore) {
		t.Errorf("P2: what waited became %+v with the room %+v", waiting, room)
	}
	if !slices.Equal(view, []api.Point{out(0, 0, 0, 1), in(1, 0, 0, 3)}) || !slices.Equal(times, []api.Time{when(0, 0)}) {
		t.Errorf("P2: what was known became %+v and %+v", view, times)
	}
}

// TestLookingChangesNothing compares a run that is looked at often with one that is not.
func TestLookingChangesNothing(t *testing.T) {
	g := example()
	looked, other := mustBegin(t, g, 3), mustBegin(t, g, 3)
	for i := 0; i < api.MaxGiven; i++ {
		look(looked, 4, 9)
		first := look(looked, 3, len(g.Nodes))
		if !first.same(look(looked, 3, len(g.Nodes))) {
			t.Fatalf("P2: looking at a run changes it")
		}
		mustGive(t, looked, i%3, 0, i)
		mustGive(t, other, i%3, 0, i)
		if i%4 == 0 {
			mustAdvance(t, looked, i%3, 0)
			mustAdvance(t, other, i%3, 0)
		}
		for j := 0; j < 7; j++ {
			k := (i*7 + j*5) % looked.Actions()
			event, _ := looked.Do(k)
			mustDo(t, other, k, event)
			look(looked, 4, 9)
		}
	}
	seen := look(looked, 3, len(g.Nodes))
	if !seen.same(look(other, 3, len(g.Nodes))) {
		t.Errorf("P2: a run that was looked at differs from one that was not")
	}
}

// TestRunsHaveNothingInCommon runs the same graph, and the same list of nodes, several times at once.
func TestRunsHaveNothingInCommon(t *testing.T) {
	g := graphOf(3, src(), merge(0, 2), back(1), once(1), sum(0, 3), src(), sink(5))
	var runs []*frontier.Run
	var models []*model
	for workers := 1; workers <= api.MaxWorkers; workers++ {
		for twice := 0; twice < 2; twice++ {
			runs = append(runs, mustBegin(t, g, workers))
			models = append(models, modelOf(g, workers))
		}
	}
	d := &dice{state: 8}
	for calls := 0; calls < 400; calls++ {
		i := d.below(len(runs))
		w, n, v := d.below(models[i].workers), d.below(2)*5, d.below(20)-10
		mustDoAs(t, runs[i], models[i], d.below(12))
		mustDoAs(t, runs[i], models[i], d.below(4))
		switch d.below(12) {
		case 0:
			mustAnswer(t, runs[i].Close(w, n), models[i].close(w, n))
		case 1, 2, 3:
			mustAnswer(t, runs[i].Advance(w, n), models[i].advance(w, n))
		default:
			mustAnswer(t, runs[i].Give(w, n, v), models[i].give(w, n, v))
		}
		if calls%20 == 0 {
			for j := range runs {
				mustBeAs(t, runs[j], models[j])
			}
		}
	}
	for j := range runs {
		mustBeAs(t, runs[j], models[j])
	}
}
