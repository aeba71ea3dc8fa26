package graph

import (
	"testing"

	"frontier/api"
)

func TestDistancesOf(t *testing.T) {
	g := api.Graph{Rounds: 2, Nodes: []api.Node{
		{Kind: api.Source}, {Kind: api.Merge, A: 0, B: 2}, {Kind: api.Back, A: 1}, {Kind: api.Back, A: 2}, {Kind: api.Sink, A: 3},
	}}
	far := DistancesOf(g)
	for n := range g.Nodes {
		for x := range g.Nodes {
			want, errno := Distance(g, n, x)
			if between := far.Between(n, x); between != want || errno != api.OK {
				t.Errorf("P4: between %d and %d lie %d, want %d", n, x, between, want)
			}
		}
	}
	if far.Between(0, 4) != 2 || far.Between(1, 1) != 1 {
		t.Errorf("P4: the distances are wrong: %+v", far)
	}
	for _, wrong := range []int{-1 << 63, -1, 5, 8, 1<<63 - 1} {
		if far.Between(wrong, 1) != api.NoWay || far.Between(0, wrong) != api.NoWay {
			t.Errorf("P4: %d, which is no node, lies somewhere", wrong)
		}
	}
	// The distances stay, when the graph is changed.
	g.Nodes[3] = api.Node{Kind: api.Add, A: 2}
	if far.Between(0, 4) != 2 {
		t.Errorf("P2: the distances hang on the graph that was handed in")
	}
}
