package graph

import "frontier/api"

// Order answers the numbers of the nodes in an order in which what they put out
// in one round can be found: each behind those from which it takes, but for a
// Back, which puts out what came in the round ahead. Nodes on a cycle without a
// Back, and those that hang on one, have no place in such an order and are left out.
func Order(g api.Graph) []int {
	var order []int
	// Each pass places a node at least, as long as there is one that can be placed.
	for pass := 0; pass < len(g.Nodes); pass++ {
		for n, node := range g.Nodes {
			if !contains(order, n) && canFollow(order, node) {
				order = append(order, n)
			}
		}
	}
	return order
}

func canFollow(order []int, node api.Node) bool {
	switch node.Kind {
	case api.Source, api.Back:
		return true
	case api.Merge:
		return contains(order, node.A) && contains(order, node.B)
	}
	return contains(order, node.A)
}

// cycleOutside answers a cycle of nodes that the order leaves out. Each of those
// takes from another of them, so the walk against the ways never leaves them.
func cycleOutside(g api.Graph, order []int) []int {
	start := firstOutside(g, order)
	// Behind as many steps as there are nodes the walk goes round on a cycle.
	for step := 0; step < len(g.Nodes); step++ {
		start = aheadOutside(g, order, start)
	}
	cycle := []int{start}
	n := aheadOutside(g, order, start)
	for n != start && len(cycle) < len(g.Nodes) {
		cycle = append([]int{n}, cycle...)
		n = aheadOutside(g, order, n)
	}
	return cycle
}

func firstOutside(g api.Graph, order []int) int {
	for n := 0; n < len(g.Nodes); n++ {
		if !contains(order, n) {
			return n
		}
	}
	return 0
}

// aheadOutside answers a node outside the order from which the node n takes.
func aheadOutside(g api.Graph, order []int, n int) int {
	if !IsNode(g, n) {
		return n
	}
	node := g.Nodes[n]
	if node.Kind == api.Merge && contains(order, node.A) {
		return node.B
	}
	return node.A
}

func contains(list []int, n int) bool {
	for _, m := range list {
		if m == n {
			return true
		}
	}
	return false
}
