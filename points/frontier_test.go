package points

import (
	"slices"
	"testing"

	"frontier/api"
	"frontier/graph"
)

// loops is a graph with a Sum on a cycle and a Back behind another.
func loops() api.Graph {
	return api.Graph{Rounds: 4, Nodes: []api.Node{
		{Kind: api.Source},
		{Kind: api.Merge, A: 0, B: 3},
		{Kind: api.Sum, A: 1, K: 2},
		{Kind: api.Back, A: 2},
		{Kind: api.Back, A: 3},
		{Kind: api.Merge, A: 4, B: 6},
		{Kind: api.Source},
		{Kind: api.Sink, A: 5},
	}}
}

func mustCome(t *testing.T, g api.Graph, list []api.Point, x int, want ...api.Time) {
	t.Helper()
	times := Frontier(g, graph.DistancesOf(g), list, x)
	if !slices.Equal(times, want) {
		t.Errorf("P9: to %d of %+v can come, from %+v, %+v, want %+v", x, g, list, times, want)
	}
}

func when(epoch, round int) api.Time { return api.Time{Epoch: epoch, Round: round} }

func TestFrontierOfWantedTimes(t *testing.T) {
	g := loops()
	// OUT of a Sum: to itself a round later, over the Back.
	mustCome(t, g, []api.Point{out(2, 1, 1, 1)}, 2, when(1, 2))
	mustCome(t, g, []api.Point{out(2, 1, 1, 1)}, 3, when(1, 1))
	mustCome(t, g, []api.Point{out(2, 1, 1, 1)}, 7, when(1, 3))
	mustCome(t, g, []api.Point{out(2, 1, 2, 1)}, 7)
	mustCome(t, g, []api.Point{out(2, 1, 3, 1)}, 2)
	// IN it: at once.
	mustCome(t, g, []api.Point{in(2, 1, 1, 1)}, 2, when(1, 1))
	mustCome(t, g, []api.Point{in(2, 1, 3, 1)}, 2, when(1, 3))
	// IN a Back counts its own round, but not for itself.
	mustCome(t, g, []api.Point{in(3, 0, 1, 1)}, 3, when(0, 1))
	mustCome(t, g, []api.Point{in(3, 0, 1, 1)}, 4, when(0, 2))
	mustCome(t, g, []api.Point{in(3, 0, 1, 1)}, 7, when(0, 3))
	mustCome(t, g, []api.Point{in(3, 0, 3, 1)}, 3, when(0, 3))
	mustCome(t, g, []api.Point{in(3, 0, 3, 1)}, 4)
	mustCome(t, g, []api.Point{in(4, 0, 3, 1)}, 7)
	mustCome(t, g, []api.Point{in(7, 0, 3, 1)}, 7, when(0, 3))
	mustCome(t, g, []api.Point{in(7, 0, 3, 1)}, 5)
}

// TestFrontierOfCounts: only points of which there is more than none let something come.
func TestFrontierOfCounts(t *testing.T) {
	g := loops()
	mustCome(t, g, []api.Point{in(1, 0, 0, -1), in(1, 2, 1, 1)}, 2, when(2, 1))
	mustCome(t, g, []api.Point{in(1, 0, 0, 0), in(1, 2, 1, 7)}, 2, when(2, 1))
	mustCome(t, g, []api.Point{in(1, 0, 0, least64)}, 1)
	mustCome(t, g, []api.Point{in(1, 0, 0, greatest)}, 1, when(0, 0))
	mustCome(t, g, nil, 1)
}

func TestFrontierLeast(t *testing.T) {
	g := loops()
	four := []api.Point{in(5, 3, 0, 1), in(5, 2, 1, 1), in(5, 1, 2, 1), in(5, 0, 3, 1)}
	mustCome(t, g, four, 7, when(0, 3), when(1, 2), when(2, 1), when(3, 0))
	more := append(slices.Clone(four), in(5, 5, 0, 1), in(5, 3, 2, 1), in(5, 2, 2, 1), in(5, 1, 3, 1), in(5, 4, 3, 1))
	mustCome(t, g, more, 7, when(0, 3), when(1, 2), when(2, 1), when(3, 0))
	mustCome(t, g, append(more, in(5, 1, 0, 1)), 7, when(0, 3), when(1, 0))
	mustCome(t, g, append(more, in(5, 0, 0, 1)), 7, when(0, 0))
	mustCome(t, g, []api.Point{in(5, 5, 3, 1)}, 7, when(5, 3))
}

func TestFrontierThatCannotBe(t *testing.T) {
	g := loops()
	for _, x := range []int{least64, -1, 8, greatest} {
		mustCome(t, g, []api.Point{in(1, 0, 0, 1), out(0, 0, 0, 1)}, x)
	}
	for _, p := range []api.Point{in(-1, 0, 0, 1), in(8, 0, 0, 1), in(1, -1, 0, 1), in(1, 6, 0, 1), in(1, 0, -1, 1), in(1, 0, 4, 1), in(1, 0, greatest, 1)} {
		mustCome(t, g, []api.Point{p}, 1)
		mustCome(t, g, []api.Point{p}, 2)
	}
	g.Rounds = 100
	mustCome(t, g, []api.Point{in(4, 0, 3, 1)}, 7)
}

// TestFrontierOfPairs takes every two points of some counts, and follows the words of P9.
func TestFrontierOfPairs(t *testing.T) {
	g := loops()
	g.Rounds = 3
	far := graph.DistancesOf(g)
	var all []api.Point
	for n := range g.Nodes {
		for round := 0; round < g.Rounds; round++ {
			for _, epoch := range []int{0, 1, 5} {
				all = append(all, in(n, epoch, round, 1), out(n, epoch, round, 2), in(n, epoch, round, -1))
			}
		}
	}
	for _, p := range all {
		for _, q := range all {
			for x := range g.Nodes {
				list := []api.Point{p, q}
				want := wantedFrontier(g, far, list, x)
				if times := Frontier(g, far, list, x); !slices.Equal(times, want) {
					t.Fatalf("P9: to %d can come, from %+v, %+v, want %+v", x, list, times, want)
				}
			}
		}
	}
}

func wantedFrontier(g api.Graph, far graph.Distances, list []api.Point, x int) []api.Time {
	var can, all []api.Time
	for epoch := 0; epoch <= api.MaxEpoch; epoch++ {
		for round := 0; round < g.Rounds; round++ {
			for _, p := range list {
				if p.Count > 0 && p.Epoch == epoch && canCome(g, far, p, x, round) {
					can = append(can, when(epoch, round))
					break
				}
			}
		}
	}
	for _, time := range can {
		if !slices.ContainsFunc(can, func(o api.Time) bool {
			return o != time && o.Epoch <= time.Epoch && o.Round <= time.Round
		}) {
			all = append(all, time)
		}
	}
	return all
}

func canCome(g api.Graph, far graph.Distances, p api.Point, x, round int) bool {
	if !p.Out && p.Node == x && p.Round == round {
		return true
	}
	distance := far.Between(p.Node, x)
	if !p.Out && g.Nodes[p.Node].Kind == api.Back && distance >= 0 {
		distance++
	}
	return distance >= 0 && p.Round+distance == round
}

func TestHasUpTo(t *testing.T) {
	frontier := []api.Time{when(0, 3), when(1, 1), when(4, 0)}
	for epoch := 0; epoch <= 5; epoch++ {
		for round := 0; round < 4; round++ {
			want := round == 3 || epoch >= 1 && round >= 1 || epoch >= 4
			if HasUpTo(frontier, when(epoch, round)) != want {
				t.Errorf("P10: HasUpTo(%+v, (%d, %d)) is not %v", frontier, epoch, round, want)
			}
		}
	}
	if HasUpTo(nil, when(5, 3)) {
		t.Errorf("P10: of no times one is up to (5, 3)")
	}
}
