package frontier_test

import (
	"slices"
	"sort"

	"frontier/api"
)

const (
	greatest = 1<<63 - 1
	least    = -1 << 63
)

func src() api.Node             { return api.Node{Kind: api.Source} }
func add(a, k int) api.Node     { return api.Node{Kind: api.Add, A: a, K: k} }
func pass(a, k, m int) api.Node { return api.Node{Kind: api.Pass, A: a, K: k, M: m} }
func merge(a, b int) api.Node   { return api.Node{Kind: api.Merge, A: a, B: b} }
func back(a int) api.Node       { return api.Node{Kind: api.Back, A: a} }
func once(a int) api.Node       { return api.Node{Kind: api.Once, A: a} }
func sum(a, k int) api.Node     { return api.Node{Kind: api.Sum, A: a, K: k} }
func sink(a int) api.Node       { return api.Node{Kind: api.Sink, A: a} }

func graphOf(rounds int, nodes ...api.Node) api.Graph {
	return api.Graph{Nodes: nodes, Rounds: rounds}
}

// example is the graph G of the document's examples.
func example() api.Graph {
	return graphOf(3, src(), merge(0, 4), add(1, 1), pass(2, 2, 0), back(3), sum(2, 1), sink(5))
}

// knotted is the graph G with an Add in the place of the Back.
func knotted() api.Graph {
	g := example()
	g.Nodes[4] = add(3, 0)
	return g
}

func copyOf(g api.Graph) api.Graph {
	return api.Graph{Nodes: append([]api.Node(nil), g.Nodes...), Rounds: g.Rounds}
}

// dice throws the same numbers in every run of the tests.
type dice struct{ state uint64 }

func (d *dice) below(n int) int {
	d.state = d.state*6364136223846793005 + 1442695040888963407
	return int((d.state >> 33) % uint64(n))
}

// node throws a node for a graph of so many nodes that is as it should be, but
// that it may take from a Sink, and a Merge twice from the same.
func (d *dice) node(n, nodes int) api.Node {
	a := d.below(nodes)
	// Too many graphs would be knotted, if most nodes did not take from ones ahead.
	if n > 0 && d.below(4) > 0 {
		a = d.below(n)
	}
	switch d.below(11) {
	case 0:
		return src()
	case 1:
		return add(a, d.below(7)-3)
	case 2:
		k := 1 + d.below(3)
		return pass(a, k, d.below(k))
	case 3, 4:
		return merge(a, d.below(nodes))
	case 5, 6, 7:
		return back(a)
	case 8:
		return once(a)
	case 9:
		return sum(a, 1+d.below(3))
	}
	return sink(a)
}

func (d *dice) graph() api.Graph {
	g := api.Graph{Rounds: 1 + d.below(api.MaxRounds)}
	nodes := 2 + d.below(api.MaxNodes-1)
	for n := 0; n < nodes; n++ {
		node := d.node(n, nodes)
		if n == 0 && d.below(4) > 0 {
			node = src()
		}
		g.Nodes = append(g.Nodes, node)
	}
	return g
}

func (d *dice) given(g api.Graph) []api.Given {
	var sources []int
	for n, node := range g.Nodes {
		if node.Kind == api.Source {
			sources = append(sources, n)
		}
	}
	var all []api.Given
	for left := d.below(8); left > 0 && len(sources) > 0; left-- {
		all = append(all, api.Given{Node: sources[d.below(len(sources))], Epoch: d.below(3) * 5 / 2, Value: d.below(9) - 4})
	}
	return all
}

// takenFrom is the numbers of the nodes from which a node takes.
func takenFrom(node api.Node) []int {
	switch node.Kind {
	case api.Source:
		return nil
	case api.Merge:
		return []int{node.A, node.B}
	}
	return []int{node.A}
}

func takes(node api.Node, n int) bool {
	for _, a := range takenFrom(node) {
		if a == n {
			return true
		}
	}
	return false
}

// isWellFormed follows the section Words: what is left of a node, when the
// numbers that its kind names are taken away, is 0.
func isWellFormed(g api.Graph) bool {
	merges := 0
	for _, node := range g.Nodes {
		rest := node
		rest.Kind, rest.A = 0, 0
		switch node.Kind {
		case api.Source:
			rest.A = node.A
		case api.Add:
			rest.K = 0
		case api.Pass:
			if node.K < 1 || node.K > 100 || node.M < 0 || node.M >= node.K {
				return false
			}
			rest.K, rest.M = 0, 0
		case api.Merge:
			merges++
			if node.A == node.B {
				return false
			}
			rest.B = 0
		case api.Back, api.Once, api.Sink:
		case api.Sum:
			if node.K < 1 || node.K > 8 {
				return false
			}
			rest.K = 0
		default:
			return false
		}
		if rest != (api.Node{}) {
			return false
		}
		for _, a := range takenFrom(node) {
			if a < 0 || a >= len(g.Nodes) || g.Nodes[a].Kind == api.Sink {
				return false
			}
		}
	}
	return len(g.Nodes) >= 1 && len(g.Nodes) <= 8 && g.Rounds >= 1 && g.Rounds <= 4 && merges <= 3
}

// isKnotted tells whether a node reaches itself over nodes that are no Backs.
func isKnotted(g api.Graph) bool {
	var reaches [api.MaxNodes][api.MaxNodes]bool
	for x, node := range g.Nodes {
		for _, a := range takenFrom(node) {
			reaches[a][x] = node.Kind != api.Back && g.Nodes[a].Kind != api.Back
		}
	}
	for y := range reaches {
		for n := range reaches {
			for x := range reaches {
				reaches[n][x] = reaches[n][x] || reaches[n][y] && reaches[y][x]
			}
		}
	}
	for n := range reaches {
		if reaches[n][n] {
			return true
		}
	}
	return false
}

func wantedErrno(g api.Graph) api.Errno {
	if !isWellFormed(g) {
		return api.ErrGraph
	}
	if isKnotted(g) {
		return api.ErrCycle
	}
	return api.OK
}

// wantedDistance goes every way from n to x that meets no node twice on its way.
func wantedDistance(g api.Graph, n, x int, met [api.MaxNodes]bool) int {
	best := api.NoWay
	for y, node := range g.Nodes {
		if !takes(node, n) {
			continue
		}
		far := 0
		if y != x {
			if met[y] {
				continue
			}
			deeper := met
			deeper[y] = true
			far = wantedDistance(g, y, x, deeper)
			if far == api.NoWay {
				continue
			}
			if node.Kind == api.Back {
				far++
			}
		}
		if best == api.NoWay || far < best {
			best = far
		}
	}
	return best
}

// comesTo is what comes to a node at a time, found from the node backwards.
func comesTo(g api.Graph, given []api.Given, n, epoch, round int) []int {
	var all []int
	for _, a := range takenFrom(g.Nodes[n]) {
		all = append(all, putOutBy(g, given, a, epoch, round)...)
	}
	return all
}

func putOutBy(g api.Graph, given []api.Given, n, epoch, round int) []int {
	node := g.Nodes[n]
	var all []int
	switch node.Kind {
	case api.Source:
		for _, one := range given {
			if round == 0 && one == (api.Given{Node: n, Epoch: epoch, Value: one.Value}) {
				all = append(all, one.Value)
			}
		}
		return all
	case api.Back:
		if round > 0 {
			all = comesTo(g, given, n, epoch, round-1)
		}
		return all
	}
	met := map[int]bool{}
	sums := map[int]int{}
	for _, v := range comesTo(g, given, n, epoch, round) {
		switch node.Kind {
		case api.Add:
			all = append(all, v+node.K)
		case api.Pass:
			if wantedRest(v, node.K) == node.M {
				all = append(all, v)
			}
		case api.Merge:
			all = append(all, v)
		case api.Once:
			if !met[v] {
				all = append(all, v)
			}
			met[v] = true
		case api.Sum:
			sums[wantedRest(v, node.K)] += v
		}
	}
	for _, v := range sums {
		all = append(all, v)
	}
	return all
}

func wantedRest(v, k int) int {
	for rest := 0; rest < k; rest++ {
		// v - rest itself could wrap around.
		if (v%k-rest)%k == 0 {
			return rest
		}
	}
	return -1
}

func wantedMeaning(g api.Graph, given []api.Given) []api.Record {
	var all []api.Record
	for n, node := range g.Nodes {
		if node.Kind != api.Sink {
			continue
		}
		for epoch := 0; epoch <= 5; epoch++ {
			for round := 0; round < g.Rounds; round++ {
				came := comesTo(g, given, n, epoch, round)
				sort.Ints(came)
				for _, v := range came {
					all = append(all, api.Record{Node: n, Epoch: epoch, Round: round, Value: v})
				}
			}
		}
	}
	return all
}

func sameGraph(a, b api.Graph) bool {
	return a.Rounds == b.Rounds && slices.Equal(a.Nodes, b.Nodes)
}

// overwrite writes over a list, its spare room and what is appended.
func overwrite[T any](list []T, mark T) {
	list = list[:cap(list)]
	for i := range list {
		list[i] = mark
	}
	_ = append(list, mark)
}
