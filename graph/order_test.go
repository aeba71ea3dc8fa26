package graph

import (
	"slices"
	"testing"

	"frontier/api"
)

func TestOrder(t *testing.T) {
	for _, c := range []struct {
		nodes []api.Node
		want  []int
	}{
		{nil, nil},
		{[]api.Node{{Kind: api.Sink, A: 1}, {Kind: api.Add, A: 2}, {Kind: api.Source}}, []int{2, 1, 0}},
		{[]api.Node{{Kind: api.Back, A: 1}, {Kind: api.Add, A: 0}}, []int{0, 1}},
		{[]api.Node{{Kind: api.Merge, A: 1, B: 2}, {Kind: api.Source}, {Kind: api.Add, A: 1}}, []int{1, 2, 0}},
		{[]api.Node{{Kind: api.Merge, A: 2, B: 1}, {Kind: api.Source}, {Kind: api.Add, A: 1}}, []int{1, 2, 0}},
		// A cycle and what hangs on it are left out.
		{[]api.Node{{Kind: api.Source}, {Kind: api.Merge, A: 0, B: 1}, {Kind: api.Sink, A: 1}, {Kind: api.Sink, A: 0}}, []int{0, 3}},
		// Numbers of no nodes are no matter.
		{[]api.Node{{Kind: api.Add, A: -1}, {Kind: api.Merge, A: 3, B: 9}, {Kind: api.Source}}, []int{2}},
	} {
		if order := Order(api.Graph{Nodes: c.nodes, Rounds: 1}); !slices.Equal(order, c.want) {
			t.Errorf("P3: Order(%+v) = %v, want %v", c.nodes, order, c.want)
		}
	}
}

func TestTakes(t *testing.T) {
	for _, c := range []struct {
		node api.Node
		n    int
		want bool
	}{
		{api.Node{Kind: api.Source}, 0, false}, {api.Node{Kind: api.Add, A: 1}, 1, true}, {api.Node{Kind: api.Add, A: 1}, 0, false}, {api.Node{Kind: api.Merge, A: 1, B: 2}, 1, true}, {api.Node{Kind: api.Merge, A: 1, B: 2}, 2, true}, {api.Node{Kind: api.Merge, A: 1, B: 2}, 0, false}, {api.Node{Kind: api.Sink, A: 3}, 3, true},
	} {
		if takes := Takes(c.node, c.n); takes != c.want {
			t.Errorf("P4: Takes(%+v, %d) = %v", c.node, c.n, takes)
		}
	}
}

func TestIsNode(t *testing.T) {
	g := api.Graph{Nodes: []api.Node{{Kind: api.Source}, {Kind: api.Sink}}, Rounds: 1}
	for n := -2; n < 5; n++ {
		if IsNode(g, n) != (n == 0 || n == 1) || IsOfKind(g, n, api.Source) != (n == 0) || IsOfKind(g, n, api.Sink) != (n == 1) {
			t.Errorf("P4: IsNode and IsOfKind are wrong at %d", n)
		}
	}
}
