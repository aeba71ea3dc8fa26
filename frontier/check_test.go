package frontier_test

import (
	"slices"
	"testing"

	"frontier/api"
	"frontier/frontier"
)

// mustCheck tests what Check answers against what is wanted, and a cycle by what P3 says of one.
func mustCheck(t *testing.T, g api.Graph, want api.Errno) {
	t.Helper()
	errno, cycle := frontier.Check(g)
	if errno != want {
		t.Errorf("P3: Check(%+v) = %d, %v, want %d", g, errno, cycle, want)
		return
	}
	if want != api.ErrCycle {
		if cycle != nil {
			t.Errorf("P3: Check(%+v) = %d, %v, want nil beside it", g, errno, cycle)
		}
		return
	}
	if !isCycleWithoutBack(g, cycle) {
		t.Errorf("P3: Check(%+v) tells %v, which is no such cycle", g, cycle)
	}
	_, again := frontier.Check(copyOf(g))
	if !slices.Equal(cycle, again) {
		t.Errorf("P3: Check(%+v) tells %v, then %v", g, cycle, again)
	}
}

func isCycleWithoutBack(g api.Graph, cycle []int) bool {
	if len(cycle) == 0 {
		return false
	}
	met := map[int]bool{}
	ahead := cycle[len(cycle)-1]
	for _, n := range cycle {
		if n < 0 || n >= len(g.Nodes) || met[n] || g.Nodes[n].Kind == api.Back || !takes(g.Nodes[n], ahead) {
			return false
		}
		met[n] = true
		ahead = n
	}
	return true
}

func TestCheckExample(t *testing.T) {
	mustCheck(t, example(), api.OK)
	mustCheck(t, knotted(), api.ErrCycle)
	_, cycle := frontier.Check(knotted())
	if len(cycle) != 4 {
		t.Errorf("P3: the cycle of the example is %v, want one of 1, 2, 3, 4", cycle)
	}
}

func TestCheckBoundsOfGraphs(t *testing.T) {
	for nodes := 0; nodes <= 12; nodes++ {
		want := api.ErrGraph
		if nodes >= 1 && nodes <= api.MaxNodes {
			want = api.OK
		}
		mustCheck(t, api.Graph{Nodes: make([]api.Node, nodes), Rounds: 1}, want)
	}
	for _, rounds := range []int{least, -1, 0, 1, 2, 3, 4, 5, 6, greatest} {
		want := api.ErrGraph
		if rounds >= 1 && rounds <= api.MaxRounds {
			want = api.OK
		}
		mustCheck(t, graphOf(rounds, src()), want)
	}
	three := []api.Node{src(), src(), merge(0, 1), merge(1, 2), merge(2, 3)}
	mustCheck(t, graphOf(1, three...), api.OK)
	mustCheck(t, graphOf(1, append(three, merge(3, 4))...), api.ErrGraph)
	mustCheck(t, graphOf(1, append(three, merge(3, 4), merge(4, 5), src())...), api.ErrGraph)
}

// TestCheckNumbersOfNodes sets each number of a node of each kind to the edges
// of what it may be and beyond.
func TestCheckNumbersOfNodes(t *testing.T) {
	edges := []int{least, -101, -100, -8, -1, 0, 1, 2, 3, 4, 5, 6, 7, 8, 9, 99, 100, 101, greatest}
	for _, node := range []api.Node{
		src(), add(0, 5), pass(0, 1, 0), pass(0, 100, 99), pass(0, 3, 2), merge(0, 1), merge(1, 3), back(0), once(1), sum(0, 1), sum(1, 8), sink(3),
		{Kind: 8}, {Kind: -1}, {Kind: greatest}, {Kind: least},
	} {
		for _, edge := range edges {
			for _, changed := range []api.Node{
				{Kind: edge, A: node.A, B: node.B, K: node.K, M: node.M},
				{Kind: node.Kind, A: edge, B: node.B, K: node.K, M: node.M},
				{Kind: node.Kind, A: node.A, B: edge, K: node.K, M: node.M},
				{Kind: node.Kind, A: node.A, B: node.B, K: edge, M: node.M},
				{Kind: node.Kind, A: node.A, B: node.B, K: node.K, M: edge},
			} {
				// Node 2 is a Sink, from which nothing may take; 4 is the node itself.
				g := graphOf(2, src(), src(), sink(0), add(0, 1), changed)
				mustCheck(t, g, wantedErrno(g))
			}
		}
	}
}

func TestCheckTaking(t *testing.T) {
	for _, g := range []api.Graph{
		graphOf(1, sink(1), src()), graphOf(1, add(1, 0), src()), graphOf(1, sink(1), once(2), src()), graphOf(1, src(), src()),
		graphOf(1, sink(1), src(), src(), merge(1, 2)),
		graphOf(1, src(), add(0, greatest)), graphOf(1, src(), add(0, least)),
	} {
		mustCheck(t, g, api.OK)
	}
	for _, g := range []api.Graph{
		graphOf(1, sink(1), src(), add(0, 0)), graphOf(1, sink(1), src(), merge(1, 0)), graphOf(1, sink(1), src(), merge(0, 1)), graphOf(1, sink(1), sink(0)), graphOf(1, sink(0)),
		graphOf(1, src(), back(2)), graphOf(1, src(), back(-1)), graphOf(1, src(), merge(0, 2)), graphOf(1, src(), merge(0, -1)), graphOf(1, src(), merge(0, 0)),
	} {
		mustCheck(t, g, api.ErrGraph)
	}
}

func TestCheckCycles(t *testing.T) {
	for _, g := range []api.Graph{
		graphOf(1, back(0)), graphOf(1, back(1), back(0)), graphOf(1, add(1, 1), back(0)), graphOf(4, src(), merge(0, 2), back(1)),
		graphOf(2, merge(1, 2), back(0), back(3), add(0, 1)),
	} {
		mustCheck(t, g, api.OK)
	}
	for _, g := range []api.Graph{
		graphOf(1, add(0, 1)), graphOf(1, add(1, 1), add(0, 1)), graphOf(1, src(), merge(0, 1)), graphOf(1, src(), merge(1, 0)),
		// The nodes that hang on a cycle are none of it.
		graphOf(1, sink(1), add(2, 0), once(3), pass(4, 1, 0), sum(3, 1)),
		// Two cycles through one Merge, only one of them has a Back.
		graphOf(1, merge(1, 2), back(0), add(0, 1)), graphOf(1, merge(2, 1), back(0), add(0, 1)),
		// A Merge of which only one side is on the cycle.
		graphOf(1, src(), merge(0, 3), merge(1, 0), sum(2, 1)), graphOf(1, src(), merge(3, 0), merge(0, 1), sum(2, 1)),
		graphOf(1, add(1, 0), add(2, 0), add(3, 0), add(4, 0), add(5, 0), add(6, 0), add(7, 0), add(0, 0)),
	} {
		mustCheck(t, g, api.ErrCycle)
	}
	// A graph that is none is told ahead of its cycle.
	mustCheck(t, graphOf(1, add(0, 1), sum(0, 9)), api.ErrGraph)
	mustCheck(t, graphOf(5, add(0, 1)), api.ErrGraph)
}

// everyNode is every node, with few K and M, that takes from one of so many, also those that may not be.
func everyNode(nodes int) []api.Node {
	all := []api.Node{src()}
	for a := 0; a < nodes; a++ {
		all = append(all, add(a, 1), pass(a, 2, 1), back(a), once(a), sum(a, 2), sink(a))
		for b := 0; b < nodes; b++ {
			all = append(all, merge(a, b))
		}
	}
	return all
}

func TestCheckEveryGraphOfThreeNodes(t *testing.T) {
	all := everyNode(3)
	for _, first := range all {
		for _, second := range all {
			for _, third := range all {
				g := graphOf(2, first, second, third)
				mustCheck(t, g, wantedErrno(g))
			}
		}
	}
}

func TestCheckManyGraphs(t *testing.T) {
	d := &dice{state: 1}
	var met [3]int
	for i := 0; i < 40000; i++ {
		g := d.graph()
		want := wantedErrno(g)
		mustCheck(t, g, want)
		met[want]++
	}
	for errno, times := range met {
		if times < 500 {
			t.Errorf("only %d graphs with the answer %d were tried", times, errno)
		}
	}
}
