// Package run: a graph that is run by several workers.
package run

import (
	"frontier/api"
	"frontier/graph"
	"frontier/points"
)

// Run is a graph that is run.
type Run struct {
	graph     api.Graph
	distances graph.Distances
	workers   []worker
	given     int
	records   []api.Record
}

// worker is what one worker has: by node, its Sources, what waits, what its
// Onces let by, and what its Sums added up; what it believes; by worker, the
// changes of others that are on their way to it.
type worker struct {
	sources  [api.MaxNodes]source
	waiting  [api.MaxNodes][]api.Message
	letBy    [api.MaxNodes][]api.Message
	tallies  [api.MaxNodes]tally
	believed points.Believed
	onTheWay [api.MaxWorkers][]points.Change
}

type source struct {
	epoch  int
	closed bool
}

// New begins a run of g by so many workers (P6).
func New(g api.Graph, workers int) (Run, api.Errno) {
	errno, _ := graph.Check(g)
	if errno != api.OK {
		return Run{}, errno
	}
	if workers < 1 || workers > api.MaxWorkers {
		return Run{}, api.ErrArg
	}
	var r Run
	r.graph.Rounds = g.Rounds
	// The caller's list of nodes may be changed while the run goes on.
	r.graph.Nodes = append(r.graph.Nodes, g.Nodes...)
	r.distances = graph.DistancesOf(g)
	first := beginning(g, workers)
	for w := 0; w < workers; w++ {
		var one worker
		one.believed.Believe(first)
		r.workers = append(r.workers, one)
	}
	return r, api.OK
}

// beginning is what every worker believes at first: each Source is open on all of them.
func beginning(g api.Graph, workers int) points.Change {
	var change points.Change
	for n, node := range g.Nodes {
		if node.Kind == api.Source {
			change.Points = append(change.Points, out(n, api.Time{}, workers))
		}
	}
	return change
}

// Waiting answers what waits at a node of a worker (P8).
func (r *Run) Waiting(w int, n int) ([]api.Message, api.Errno) {
	if !r.isWorker(w) || !graph.IsNode(r.graph, n) {
		return nil, api.ErrArg
	}
	var all []api.Message
	all = append(all, r.workers[w].waiting[n]...)
	return all, api.OK
}

// View answers the points in which a worker believes (P9).
func (r *Run) View(w int) ([]api.Point, api.Errno) {
	if !r.isWorker(w) {
		return nil, api.ErrArg
	}
	return r.workers[w].believed.Points(), api.OK
}

// Frontier answers the least times that can still come to a node, as a worker knows (P9).
func (r *Run) Frontier(w int, n int) ([]api.Time, api.Errno) {
	if !r.isWorker(w) || !graph.IsNode(r.graph, n) {
		return nil, api.ErrArg
	}
	list := r.workers[w].believed.Points()
	return points.Frontier(r.graph, r.distances, list, n), api.OK
}

// Out answers what came to the Sinks, in the order in which it came (P12).
func (r *Run) Out() []api.Record {
	var all []api.Record
	all = append(all, r.records...)
	return all
}

func (r *Run) isWorker(w int) bool {
	return w >= 0 && w < len(r.workers)
}
