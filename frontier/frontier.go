// Package frontier: graphs with loops, run by several workers: see DOC.md.
package frontier

import (
	"frontier/api"
	"frontier/graph"
	"frontier/meaning"
	"frontier/run"
)

// Run is a graph that is run.
type Run struct {
	run run.Run
}

// Check tells whether a graph is one (P3).
func Check(g api.Graph) (api.Errno, []int) { return graph.Check(g) }

// Distance tells how many rounds lie between two nodes at least (P4).
func Distance(g api.Graph, n int, x int) (int, api.Errno) { return graph.Distance(g, n, x) }

// Meaning tells what comes to the sinks in the end (P5).
func Meaning(g api.Graph, given []api.Given) ([]api.Record, api.Errno) {
	return meaning.Of(g, given)
}

// New begins a run (P6).
func New(g api.Graph, workers int) (*Run, api.Errno) {
	begun, errno := run.New(g, workers)
	if errno != api.OK {
		return nil, errno
	}
	return &Run{run: begun}, api.OK
}

// Give gives a source of a worker a value (P7).
func (r *Run) Give(w int, n int, v int) api.Errno { return r.run.Give(w, n, v) }

// Advance goes to a source's next epoch (P7).
func (r *Run) Advance(w int, n int) api.Errno { return r.run.Advance(w, n) }

// Close closes a source of a worker (P7).
func (r *Run) Close(w int, n int) api.Errno { return r.run.Close(w, n) }

// Waiting tells what waits at a node of a worker (P8).
func (r *Run) Waiting(w int, n int) ([]api.Message, api.Errno) { return r.run.Waiting(w, n) }

// View tells what a worker believes (P9).
func (r *Run) View(w int) ([]api.Point, api.Errno) { return r.run.View(w) }

// Frontier tells which times can still come to a node, as far as a worker knows (P9).
func (r *Run) Frontier(w int, n int) ([]api.Time, api.Errno) { return r.run.Frontier(w, n) }

// Actions tells how many actions there are (P10).
func (r *Run) Actions() int { return r.run.Actions() }

// Do does one of them (P11).
func (r *Run) Do(k int) (api.Event, api.Errno) { return r.run.Do(k) }

// Out tells what came to the sinks so far (P12).
func (r *Run) Out() []api.Record { return r.run.Out() }
