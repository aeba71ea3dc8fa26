package run

import (
	"slices"
	"testing"

	"frontier/api"
	"frontier/points"
)

func begin(t *testing.T, workers int, nodes ...api.Node) *Run {
	t.Helper()
	r, errno := New(api.Graph{Nodes: nodes, Rounds: 2}, workers)
	if errno != api.OK {
		t.Fatalf("P6: New(%+v, %d) answers %d", nodes, workers, errno)
	}
	return &r
}

func mustBeOnTheWay(t *testing.T, r *Run, from, to int, want ...[]api.Point) {
	t.Helper()
	same := func(c points.Change, list []api.Point) bool { return slices.Equal(c.Points, list) }
	if !slices.EqualFunc(r.workers[to].onTheWay[from], want, same) {
		t.Errorf("P9: from %d to %d are on their way %+v, want %+v", from, to, r.workers[to].onTheWay[from], want)
	}
}

func one(list ...api.Point) []api.Point { return list }

// TestChangesOnTheWay: each change goes to each other worker, in order, also one of no points.
func TestChangesOnTheWay(t *testing.T) {
	r := begin(t, 3, api.Node{Kind: api.Source}, api.Node{Kind: api.Sum, A: 0, K: 2}, api.Node{Kind: api.Sink, A: 0}, api.Node{Kind: api.Source})
	first, second := api.Time{}, api.Time{Epoch: 1}
	r.Give(1, 0, 4)
	r.Give(1, 3, 4)
	r.Advance(1, 0)
	r.Give(2, 0, 5)
	r.Close(1, 0)
	for _, errno := range []api.Errno{r.Close(1, 0), r.Give(1, 0, 1), r.Advance(1, 0), r.Give(1, 1, 1)} {
		if errno == api.OK {
			t.Errorf("P7: a call that should answer an error answers OK")
		}
	}
	for _, to := range []int{0, 2} {
		mustBeOnTheWay(t, r, 1, to,
			one(in(1, first, 1), in(2, first, 1)), one(), one(out(0, first, -1), out(0, second, 1)), one(out(0, second, -1)))
	}
	for _, to := range []int{0, 1} {
		mustBeOnTheWay(t, r, 2, to, one(in(1, first, 1), in(2, first, 1)))
	}
	for w := 0; w < 3; w++ {
		mustBeOnTheWay(t, r, w, w)
		mustBeOnTheWay(t, r, 0, w)
	}
}

// TestEmptyRun: where there are no workers every number is a wrong one.
func TestEmptyRun(t *testing.T) {
	r, errno := New(api.Graph{}, 1)
	if errno != api.ErrGraph || r.Give(0, 0, 1) != api.ErrArg || r.Advance(0, 0) != api.ErrArg || r.Close(0, 0) != api.ErrArg {
		t.Errorf("P1: a run that was not begun is no empty one")
	}
}
