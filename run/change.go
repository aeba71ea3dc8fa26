package run

import (
	"frontier/api"
	"frontier/graph"
	"frontier/points"
	"frontier/values"
)

// in is a point IN a node, so many times.
func in(n int, time api.Time, count int) api.Point {
	return api.Point{Node: n, Epoch: time.Epoch, Round: time.Round, Count: count}
}

// out is a point OUT of a node, so many times.
func out(n int, time api.Time, count int) api.Point {
	return api.Point{Node: n, Out: true, Epoch: time.Epoch, Round: time.Round, Count: count}
}

// putOut puts a value out by the worker w at the node n (P6), and answers what
// that does to points.
func (r *Run) putOut(w int, n int, time api.Time, v int) []api.Point {
	message := api.Message{Epoch: time.Epoch, Round: time.Round, Value: v}
	var more []api.Point
	for x, node := range r.graph.Nodes {
		if graph.Takes(node, n) {
			at := r.waitsOn(w, node, v)
			to := &r.workers[at]
			to.waiting[x] = append(to.waiting[x], message)
			more = append(more, in(x, time, 1))
		}
	}
	return more
}

// waitsOn answers the worker on which a value waits that the worker w puts out
// to a node: equal values meet at a Once, and values of one group at a Sum.
func (r *Run) waitsOn(w int, node api.Node, v int) int {
	switch node.Kind {
	case api.Once:
		return values.Rest(v, len(r.workers))
	case api.Sum:
		group := values.Rest(v, node.K)
		return values.Rest(group, len(r.workers))
	}
	return w
}

// makeChange lets the worker w believe its change, and sends it on its way to
// the others (P9). A change of no points is on its way too.
func (r *Run) makeChange(w int, list []api.Point) {
	made := changeOf(list)
	r.workers[w].believed.Believe(made)
	for x := range r.workers {
		if x != w {
			to := &r.workers[x]
			to.onTheWay[w] = append(to.onTheWay[w], made)
		}
	}
}

// changeOf is a change with a list of its own, since it is kept until all know of it.
func changeOf(list []api.Point) points.Change {
	var change points.Change
	change.Points = append(change.Points, list...)
	return change
}
