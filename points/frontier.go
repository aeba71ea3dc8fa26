package points

import (
	"frontier/api"
	"frontier/graph"
)

// coming tells which times can still come to a node.
type coming struct {
	at [api.MaxEpoch + 1][api.MaxRounds]bool
}

// Frontier answers the least of the times that can still come to the node x of
// g, in order, if there are these points; far is the distances of g.
func Frontier(g api.Graph, far graph.Distances, list []api.Point, x int) []api.Time {
	var can coming
	for _, p := range list {
		// A count below 0 tells of what is to be heard of yet, not of what can come.
		if p.Count <= 0 || !canBe(p) {
			continue
		}
		round := firstRound(g, far, p, x)
		if round >= 0 && round < g.Rounds && round < api.MaxRounds {
			can.at[p.Epoch][round] = true
		}
	}
	return least(can)
}

// firstRound answers the first round in which something can come to x from a
// point, NoWay if nothing can. Later rounds of the same epoch are never among the
// least times, so they need not be known.
func firstRound(g api.Graph, far graph.Distances, p api.Point, x int) int {
	if !p.Out && p.Node == x {
		return p.Round
	}
	distance := far.Between(p.Node, x)
	if distance == api.NoWay {
		return api.NoWay
	}
	// The distance leaves out the node at which the way begins: what waits in a
	// Back has its round ahead of it still.
	if !p.Out && graph.IsOfKind(g, p.Node, api.Back) {
		distance++
	}
	return p.Round + distance
}

// least answers the times up to which no other is, in order.
func least(can coming) []api.Time {
	var all []api.Time
	// A time is a least one, if its round is below those of all that come ahead of it in order.
	below := api.MaxRounds
	for epoch := 0; epoch <= api.MaxEpoch; epoch++ {
		for round := 0; round < below; round++ {
			if can.at[epoch][round] {
				all = append(all, api.Time{Epoch: epoch, Round: round})
				below = round
			}
		}
	}
	return all
}

// HasUpTo tells whether one of the times is up to this one.
func HasUpTo(list []api.Time, time api.Time) bool {
	for _, other := range list {
		if other.Epoch <= time.Epoch && other.Round <= time.Round {
			return true
		}
	}
	return false
}
