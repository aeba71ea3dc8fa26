// Package meaning: what a graph means: what comes to its Sinks in the end,
// whoever works at it and in whatever order.
package meaning

import (
	"frontier/api"
	"frontier/graph"
	"frontier/values"
)

// moment is what each node puts out, by node, at one time. A Sink puts nothing
// out: in its place stands what came to it.
type moment struct {
	time api.Time
	out  [][]int
}

// Of tells what comes to the Sinks of g from what is given (P5).
func Of(g api.Graph, given []api.Given) ([]api.Record, api.Errno) {
	errno, _ := graph.Check(g)
	if errno != api.OK {
		return nil, errno
	}
	if len(given) > api.MaxGiven {
		return nil, api.ErrRoom
	}
	for _, one := range given {
		if !canBeGiven(g, one) {
			return nil, api.ErrArg
		}
	}
	all := moments(g, given)
	return records(g, all), api.OK
}

func canBeGiven(g api.Graph, one api.Given) bool {
	return graph.IsOfKind(g, one.Node, api.Source) && one.Epoch >= 0 && one.Epoch <= api.MaxEpoch
}

// moments answers what is put out at every time, in order of the times.
func moments(g api.Graph, given []api.Given) []moment {
	order := graph.Order(g)
	var all []moment
	for epoch := 0; epoch <= api.MaxEpoch; epoch++ {
		// No round is ahead of round 0, also none of the epoch before.
		ahead := make([][]int, len(g.Nodes))
		for round := 0; round < g.Rounds; round++ {
			time := api.Time{Epoch: epoch, Round: round}
			out := outAt(g, order, given, time, ahead)
			all = append(all, moment{time: time, out: out})
			ahead = out
		}
	}
	return all
}

// outAt answers what each node puts out at a time, by node; ahead is what each
// put out in the round ahead.
func outAt(g api.Graph, order []int, given []api.Given, time api.Time, ahead [][]int) [][]int {
	out := make([][]int, len(g.Nodes))
	for _, n := range order {
		node := g.Nodes[n]
		if node.Kind == api.Source {
			out[n] = givenAt(given, n, time)
			continue
		}
		came := cameTo(node, out, ahead)
		out[n] = outOf(node, came)
	}
	return out
}

func givenAt(given []api.Given, n int, time api.Time) []int {
	var all []int
	for _, one := range given {
		if one.Node == n && one.Epoch == time.Epoch && time.Round == 0 {
			all = append(all, one.Value)
		}
	}
	return all
}

// cameTo answers what came to a node: to a Back in the round ahead, since that
// is what it puts out now, to any other in this round.
func cameTo(node api.Node, out [][]int, ahead [][]int) []int {
	switch node.Kind {
	case api.Back:
		return listOf(ahead, node.A)
	case api.Merge:
		var both []int
		both = append(both, listOf(out, node.A)...)
		both = append(both, listOf(out, node.B)...)
		return both
	}
	return listOf(out, node.A)
}

func outOf(node api.Node, came []int) []int {
	switch node.Kind {
	case api.Add:
		return values.Plus(came, node.K)
	case api.Pass:
		return values.WithRest(came, node.K, node.M)
	case api.Once:
		return values.Distinct(came)
	case api.Sum:
		return values.GroupSums(came, node.K)
	}
	return append([]int{}, came...)
}

func listOf(lists [][]int, n int) []int {
	if n < 0 || n >= len(lists) {
		return nil
	}
	return lists[n]
}

// records answers what came to the Sinks, in order of their nodes, times and values.
func records(g api.Graph, all []moment) []api.Record {
	var list []api.Record
	for n, node := range g.Nodes {
		if node.Kind != api.Sink {
			continue
		}
		for _, now := range all {
			came := listOf(now.out, n)
			came = values.Sorted(came)
			for _, v := range came {
				list = append(list, api.Record{Node: n, Epoch: now.time.Epoch, Round: now.time.Round, Value: v})
			}
		}
	}
	return list
}
