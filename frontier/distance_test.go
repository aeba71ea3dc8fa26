package frontier_test

import (
	"testing"

	"frontier/api"
	"frontier/frontier"
)

func mustDistance(t *testing.T, g api.Graph, n, x, want int, wantErrno api.Errno) {
	t.Helper()
	far, errno := frontier.Distance(g, n, x)
	if far != want || errno != wantErrno {
		t.Errorf("P4: of %+v Distance(%d, %d) = %d, %d, want %d, %d", g, n, x, far, errno, want, wantErrno)
	}
}

func TestDistanceExample(t *testing.T) {
	for _, c := range []struct{ n, x, want int }{
		{0, 2, 0}, {2, 1, 1}, {2, 2, 1}, {4, 1, 0}, {5, 6, 0}, {6, 0, api.NoWay},
	} {
		mustDistance(t, example(), c.n, c.x, c.want, api.OK)
	}
}

func TestDistanceEdges(t *testing.T) {
	// No way of no steps: a node is no way from itself, unless a cycle leads back.
	mustDistance(t, graphOf(1, src()), 0, 0, api.NoWay, api.OK)
	mustDistance(t, graphOf(1, src(), sink(0)), 1, 1, api.NoWay, api.OK)
	// Neither end counts, also where both are the same Back.
	mustDistance(t, graphOf(1, back(0)), 0, 0, 0, api.OK)
	mustDistance(t, graphOf(1, back(1), back(0)), 0, 1, 0, api.OK)
	mustDistance(t, graphOf(1, back(1), back(0)), 0, 0, 1, api.OK)
	mustDistance(t, graphOf(1, src(), back(0), sink(1)), 0, 1, 0, api.OK)
	mustDistance(t, graphOf(1, src(), back(0), sink(1)), 1, 2, 0, api.OK)
	mustDistance(t, graphOf(1, src(), back(0), sink(1)), 0, 2, 1, api.OK)
	// The distance is not bounded by Rounds.
	six := graphOf(1, src(), back(0), back(1), back(2), back(3), back(4), back(5), sink(6))
	mustDistance(t, six, 0, 7, 6, api.OK)
	mustDistance(t, six, 7, 0, api.NoWay, api.OK)
	// The way with more steps has fewer Backs, whichever number is the smaller.
	mustDistance(t, graphOf(2, src(), back(0), add(0, 0), add(2, 0), merge(1, 3), sink(4)), 0, 5, 0, api.OK)
	mustDistance(t, graphOf(2, sink(1), merge(2, 3), back(5), add(4, 0), add(5, 0), src()), 5, 0, 0, api.OK)
	// The A of a Source and the B of a Sink are 0, and that is no taking from node 0.
	mustDistance(t, graphOf(1, src(), src(), sink(1)), 0, 1, api.NoWay, api.OK)
	mustDistance(t, graphOf(1, src(), src(), sink(1)), 0, 2, api.NoWay, api.OK)
}

func TestDistanceErrors(t *testing.T) {
	none := graphOf(0, src())
	for _, wrong := range []int{least, -2, -1, 7, 8, greatest} {
		mustDistance(t, example(), wrong, 0, 0, api.ErrArg)
		mustDistance(t, example(), 0, wrong, 0, api.ErrArg)
		mustDistance(t, example(), wrong, wrong, 0, api.ErrArg)
		mustDistance(t, knotted(), wrong, wrong, 0, api.ErrCycle)
		mustDistance(t, none, wrong, wrong, 0, api.ErrGraph)
	}
	mustDistance(t, knotted(), 1, 2, 0, api.ErrCycle)
	mustDistance(t, none, 0, 0, 0, api.ErrGraph)
	mustDistance(t, api.Graph{}, 0, 0, 0, api.ErrGraph)
	mustDistance(t, example(), 6, 6, api.NoWay, api.OK)
}

func mustEveryDistance(t *testing.T, g api.Graph) {
	t.Helper()
	for n := range g.Nodes {
		for x := range g.Nodes {
			mustDistance(t, g, n, x, wantedDistance(g, n, x, [api.MaxNodes]bool{}), api.OK)
		}
	}
}

func TestDistanceEveryGraphOfThreeNodes(t *testing.T) {
	all := everyNode(3)
	for _, first := range all {
		for _, second := range all {
			for _, third := range all {
				g := graphOf(2, first, second, third)
				if wantedErrno(g) == api.OK {
					mustEveryDistance(t, g)
				}
			}
		}
	}
}

func TestDistanceManyGraphs(t *testing.T) {
	d := &dice{state: 2}
	tried := 0
	for i := 0; i < 20000; i++ {
		g := d.graph()
		if wantedErrno(g) == api.OK {
			mustEveryDistance(t, g)
			tried++
		}
	}
	if tried < 500 {
		t.Errorf("only %d graphs were tried", tried)
	}
}
