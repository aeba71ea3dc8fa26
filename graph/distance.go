package graph

import "frontier/api"

// Distances is the distances between all nodes of a graph.
type Distances struct {
	from [][]int
}

// Distance tells the least number of Backs between the nodes n and x on a way
// from n to x, NoWay if there is no way (P4).
func Distance(g api.Graph, n int, x int) (int, api.Errno) {
	errno, _ := Check(g)
	if errno != api.OK {
		return 0, errno
	}
	if !IsNode(g, n) || !IsNode(g, x) {
		return 0, api.ErrArg
	}
	from := distancesFrom(g, n)
	return from[x], api.OK
}

// DistancesOf answers the distances between all nodes of g.
func DistancesOf(g api.Graph) Distances {
	var all Distances
	for n := range g.Nodes {
		from := distancesFrom(g, n)
		all.from = append(all.from, from)
	}
	return all
}

// Between answers the distance from n to x, NoWay where one of them is no node.
func (d Distances) Between(n int, x int) int {
	if n < 0 || n >= len(d.from) {
		return api.NoWay
	}
	if x < 0 || x >= len(d.from[n]) {
		return api.NoWay
	}
	return d.from[n][x]
}

// distancesFrom answers, by node, the distance from n.
func distancesFrom(g api.Graph, n int) []int {
	from := oneStep(g, n)
	// A way with the fewest Backs need not meet a node twice, so no more steps are wanted.
	for step := 1; step < len(g.Nodes); step++ {
		from = oneStepMore(g, from)
	}
	return from
}

// oneStep answers, by node, the distance from n over ways of one step.
func oneStep(g api.Graph, n int) []int {
	var from []int
	for _, node := range g.Nodes {
		distance := api.NoWay
		if Takes(node, n) {
			distance = 0
		}
		from = append(from, distance)
	}
	return from
}

// oneStepMore answers, by node, the distance over the ways that from knows and
// those that are a step longer.
func oneStepMore(g api.Graph, from []int) []int {
	var longer []int
	for x, distance := range from {
		for y, toY := range from {
			if toY == api.NoWay || !Takes(g.Nodes[x], y) {
				continue
			}
			// y is the last node ahead of x on such a way, so it counts now.
			if g.Nodes[y].Kind == api.Back {
				toY++
			}
			if distance == api.NoWay || toY < distance {
				distance = toY
			}
		}
		longer = append(longer, distance)
	}
	return longer
}
