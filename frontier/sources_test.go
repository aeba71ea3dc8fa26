package frontier_test

import (
	"slices"
	"testing"

	"frontier/api"
	"frontier/frontier"
)

// seen is all that can be seen of a run.
type seen struct {
	views    [][]api.Point
	waiting  [][]api.Message
	frontier [][]api.Time
	actions  int
	out      []api.Record
}

func look(r *frontier.Run, workers, nodes int) seen {
	all := seen{actions: r.Actions(), out: r.Out()}
	for w := 0; w < workers; w++ {
		view, _ := r.View(w)
		all.views = append(all.views, view)
		for n := 0; n < nodes; n++ {
			waiting, _ := r.Waiting(w, n)
			all.waiting = append(all.waiting, waiting)
			times, _ := r.Frontier(w, n)
			all.frontier = append(all.frontier, times)
		}
	}
	return all
}

func (s seen) same(other seen) bool {
	same := len(s.views) == len(other.views) && len(s.waiting) == len(other.waiting) && s.actions == other.actions && slices.Equal(s.out, other.out)
	for i := 0; same && i < len(s.views); i++ {
		same = slices.Equal(s.views[i], other.views[i])
	}
	for i := 0; same && i < len(s.waiting); i++ {
		same = slices.Equal(s.waiting[i], other.waiting[i]) && slices.Equal(s.frontier[i], other.frontier[i])
	}
	return same
}

// twoSources is a graph with a Source from which none takes.
func twoSources() api.Graph {
	return graphOf(2, src(), sum(0, 2), src(), once(0), back(0), sink(1))
}

func TestSourceErrArg(t *testing.T) {
	r := mustBegin(t, twoSources(), 3)
	mustClose(t, r, 0, 0)
	mustGive(t, r, 1, 0, 3)
	before := look(r, 3, 6)
	wrong := []int{least, -1 << 32, -2, -1, 8, 9, 1 << 32, greatest}
	for _, w := range append([]int{3, 4, 5, 6, 7}, wrong...) {
		for _, n := range append([]int{0, 1, 2, 3, 6, 7}, wrong...) {
			mustBeErrArg(t, r, w, n)
		}
	}
	for w := 0; w < 3; w++ {
		for _, n := range append([]int{1, 3, 4, 5, 6, 7}, wrong...) {
			mustBeErrArg(t, r, w, n)
		}
	}
	if !before.same(look(r, 3, 6)) {
		t.Errorf("P1: a call with an error changed the run")
	}
}

func mustBeErrArg(t *testing.T, r *frontier.Run, w, n int) {
	t.Helper()
	mustAnswer(t, r.Give(w, n, 1), api.ErrArg)
	mustAnswer(t, r.Advance(w, n), api.ErrArg)
	mustAnswer(t, r.Close(w, n), api.ErrArg)
}

func TestGiveRoom(t *testing.T) {
	r := mustBegin(t, twoSources(), 2)
	mustClose(t, r, 1, 2)
	// What is not given is not counted.
	for i := 0; i < 30; i++ {
		mustAnswer(t, r.Give(1, 2, i), api.ErrClosed)
		mustAnswer(t, r.Give(1, 1, i), api.ErrArg)
	}
	// All Sources and workers count together, also a Source from which none takes.
	for i := 0; i < api.MaxGiven; i++ {
		w := i % 2
		n := 0
		if i%4 == 0 {
			n = 2
		}
		mustGive(t, r, w, n, i)
		if i%8 == 1 {
			mustAdvance(t, r, w, n)
		}
	}
	before := look(r, 2, 6)
	for i := 0; i < 3; i++ {
		mustAnswer(t, r.Give(0, 0, 1), api.ErrRoom)
		mustAnswer(t, r.Give(1, 0, 1), api.ErrRoom)
		mustAnswer(t, r.Give(0, 2, 1), api.ErrRoom)
		// The errors in their order.
		mustAnswer(t, r.Give(1, 2, 1), api.ErrClosed)
		mustAnswer(t, r.Give(1, 1, 1), api.ErrArg)
		mustAnswer(t, r.Give(2, 2, 1), api.ErrArg)
	}
	if !before.same(look(r, 2, 6)) {
		t.Errorf("P1: a Give with an error changed the run")
	}
	// Where no value has room there is room for epochs, and a Source can be closed.
	mustAdvance(t, r, 0, 2)
	mustClose(t, r, 0, 2)
	mustAnswer(t, r.Give(0, 2, 1), api.ErrClosed)
}

func TestAdvanceRoom(t *testing.T) {
	g := graphOf(1, src(), sink(0), src(), sink(2))
	r := mustBegin(t, g, 2)
	for epoch := 0; epoch < api.MaxEpoch; epoch++ {
		mustGive(t, r, 1, 2, epoch)
		mustAdvance(t, r, 1, 2)
		mustView(t, r, 1, append([]api.Point{out(0, 0, 0, 2), out(2, 0, 0, 1), out(2, epoch+1, 0, 1)}, sinkPoints(3, epoch)...)...)
	}
	before := look(r, 2, 4)
	for i := 0; i < 3; i++ {
		mustAnswer(t, r.Advance(1, 2), api.ErrRoom)
	}
	if !before.same(look(r, 2, 4)) {
		t.Errorf("P1: an Advance with an error changed the run")
	}
	// In the last epoch values are given still, and the other Source and worker are where they were.
	mustGive(t, r, 1, 2, 5)
	mustGive(t, r, 1, 0, 6)
	mustGive(t, r, 0, 2, 7)
	mustWait(t, r, 1, 3, api.Message{Epoch: 0, Value: 0}, api.Message{Epoch: 1, Value: 1}, api.Message{Epoch: 2, Value: 2}, api.Message{Epoch: 3, Value: 3}, api.Message{Epoch: 4, Value: 4}, api.Message{Epoch: 5, Value: 5})
	mustWait(t, r, 1, 1, messages(0, 6)...)
	mustWait(t, r, 0, 3, messages(0, 7)...)
	mustClose(t, r, 1, 2)
	mustAnswer(t, r.Advance(1, 2), api.ErrClosed)
	mustAdvance(t, r, 0, 2)
	mustAdvance(t, r, 1, 0)
}

// sinkPoints is a message in each epoch up to the last.
func sinkPoints(n, last int) []api.Point {
	var all []api.Point
	for epoch := 0; epoch <= last; epoch++ {
		all = append(all, in(n, epoch, 0, 1))
	}
	return all
}

func TestClose(t *testing.T) {
	g := graphOf(1, src(), sink(0), src(), sink(2))
	r := mustBegin(t, g, 2)
	mustAdvance(t, r, 0, 0)
	mustClose(t, r, 0, 0)
	mustView(t, r, 0, out(0, 0, 0, 1), out(2, 0, 0, 2))
	before := look(r, 2, 4)
	for i := 0; i < 3; i++ {
		mustAnswer(t, r.Close(0, 0), api.ErrClosed)
		mustAnswer(t, r.Give(0, 0, 1), api.ErrClosed)
		mustAnswer(t, r.Advance(0, 0), api.ErrClosed)
	}
	if !before.same(look(r, 2, 4)) {
		t.Errorf("P1: a call with an error changed the run")
	}
	// The other worker and the other Source are open.
	mustGive(t, r, 1, 0, 5)
	mustGive(t, r, 0, 2, 6)
	mustAdvance(t, r, 1, 0)
	mustAdvance(t, r, 0, 2)
	mustClose(t, r, 1, 0)
	mustClose(t, r, 0, 2)
	mustClose(t, r, 1, 2)
	mustWait(t, r, 1, 1, messages(0, 5)...)
	mustWait(t, r, 0, 3, messages(0, 6)...)
}

func TestGiveEveryValue(t *testing.T) {
	r := mustBegin(t, graphOf(1, src(), add(0, greatest), pass(0, 100, 0)), 1)
	all := []int{least, greatest, 0, -1, 1, 1, 1 << 32}
	mustGive(t, r, 0, 0, all...)
	mustWait(t, r, 0, 1, messages(0, all...)...)
	mustWait(t, r, 0, 2, messages(0, all...)...)
}

func TestWaitingErrors(t *testing.T) {
	r := mustBegin(t, example(), 2)
	mustGive(t, r, 0, 0, 1)
	for _, wrong := range []int{least, -2, -1, 7, 8, 9, greatest} {
		for _, c := range [][2]int{{wrong, 0}, {wrong, 1}, {0, wrong}, {1, wrong}, {wrong, wrong}} {
			list, errno := r.Waiting(c[0], c[1])
			if list != nil || errno != api.ErrArg {
				t.Errorf("P8: Waiting(%d, %d) = %+v, %d, want nil, ErrArg", c[0], c[1], list, errno)
			}
		}
	}
	for _, w := range []int{2, 3, 4} {
		list, errno := r.Waiting(w, 1)
		if list != nil || errno != api.ErrArg {
			t.Errorf("P8: Waiting(%d, 1) = %+v, %d, want nil, ErrArg", w, list, errno)
		}
	}
	mustWait(t, r, 0, 1, messages(0, 1)...)
	mustWait(t, r, 1, 1)
	mustWait(t, r, 0, 0)
	mustWait(t, r, 0, 6)
}

// TestWaitingOrder lets values come from two Sources and two workers, of epochs that go up and down.
func TestWaitingOrder(t *testing.T) {
	g := graphOf(1, src(), src(), merge(1, 0), sum(1, 1))
	r := mustBegin(t, g, 2)
	mustAdvance(t, r, 0, 1)
	mustAdvance(t, r, 0, 1)
	mustGive(t, r, 0, 1, 9)
	mustGive(t, r, 0, 0, 9)
	mustGive(t, r, 1, 1, 3)
	mustAdvance(t, r, 0, 0)
	mustGive(t, r, 0, 0, -4)
	mustGive(t, r, 0, 1, 9)
	mustWait(t, r, 0, 2, api.Message{Epoch: 2, Value: 9}, api.Message{Epoch: 0, Value: 9}, api.Message{Epoch: 1, Value: -4}, api.Message{Epoch: 2, Value: 9})
	mustWait(t, r, 1, 2, messages(0, 3)...)
	mustWait(t, r, 0, 3, api.Message{Epoch: 2, Value: 9}, api.Message{Epoch: 0, Value: 3}, api.Message{Epoch: 2, Value: 9})
	mustWait(t, r, 1, 3)
}
