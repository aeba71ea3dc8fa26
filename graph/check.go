// Package graph: which graphs there are, and how their nodes lie to one another.
package graph

import "frontier/api"

// Check tells whether g is a graph, and a cycle without a Back, if it has one (P3).
func Check(g api.Graph) (api.Errno, []int) {
	if !isWellFormed(g) {
		return api.ErrGraph, nil
	}
	order := Order(g)
	if len(order) < len(g.Nodes) {
		return api.ErrCycle, cycleOutside(g, order)
	}
	return api.OK, nil
}

// IsNode tells whether n is the number of a node.
func IsNode(g api.Graph, n int) bool {
	return n >= 0 && n < len(g.Nodes)
}

// IsOfKind tells whether n is the number of a node of this kind.
func IsOfKind(g api.Graph, n int, kind int) bool {
	return IsNode(g, n) && g.Nodes[n].Kind == kind
}

// Takes tells whether the node takes from the one numbered n.
func Takes(node api.Node, n int) bool {
	// An A or B that the kind does not name is 0, and that is no taking from node 0.
	if node.Kind == api.Source {
		return false
	}
	return node.A == n || (node.Kind == api.Merge && node.B == n)
}

func isWellFormed(g api.Graph) bool {
	if len(g.Nodes) < 1 || len(g.Nodes) > api.MaxNodes {
		return false
	}
	if g.Rounds < 1 || g.Rounds > api.MaxRounds {
		return false
	}
	merges := 0
	for _, node := range g.Nodes {
		if !isWellFormedNode(g, node) {
			return false
		}
		if node.Kind == api.Merge {
			merges++
		}
	}
	return merges <= api.MaxMerges
}

func isWellFormedNode(g api.Graph, node api.Node) bool {
	if node.Kind != api.Source && !canBeTakenFrom(g, node.A) {
		return false
	}
	if node.Kind != api.Merge && node.B != 0 {
		return false
	}
	if node.Kind != api.Pass && node.M != 0 {
		return false
	}
	switch node.Kind {
	case api.Source:
		return node.A == 0 && node.K == 0
	case api.Add:
		return true
	case api.Pass:
		return node.K >= 1 && node.K <= api.MaxModulus && node.M >= 0 && node.M < node.K
	case api.Merge:
		return canBeTakenFrom(g, node.B) && node.A != node.B && node.K == 0
	case api.Sum:
		return node.K >= 1 && node.K <= api.MaxGroups
	case api.Back, api.Once, api.Sink:
		return node.K == 0
	}
	return false
}

func canBeTakenFrom(g api.Graph, n int) bool {
	return IsNode(g, n) && g.Nodes[n].Kind != api.Sink
}
