package run

import (
	"frontier/api"
	"frontier/graph"
)

// Give gives a Source of a worker a value (P7).
func (r *Run) Give(w int, n int, v int) api.Errno {
	errno := r.sourceErrno(w, n)
	if errno != api.OK {
		return errno
	}
	if r.given >= api.MaxGiven {
		return api.ErrRoom
	}
	r.given++
	now := r.sourceTime(w, n)
	more := r.putOut(w, n, now, v)
	r.makeChange(w, more)
	return api.OK
}

// Advance lets a Source of a worker go to its next epoch (P7).
func (r *Run) Advance(w int, n int) api.Errno {
	errno := r.sourceErrno(w, n)
	if errno != api.OK {
		return errno
	}
	gone := r.sourceTime(w, n)
	if gone.Epoch >= api.MaxEpoch {
		return api.ErrRoom
	}
	r.workers[w].sources[n].epoch++
	next := r.sourceTime(w, n)
	r.makeChange(w, []api.Point{out(n, gone, -1), out(n, next, 1)})
	return api.OK
}

// Close closes a Source of a worker (P7).
func (r *Run) Close(w int, n int) api.Errno {
	errno := r.sourceErrno(w, n)
	if errno != api.OK {
		return errno
	}
	r.workers[w].sources[n].closed = true
	gone := r.sourceTime(w, n)
	r.makeChange(w, []api.Point{out(n, gone, -1)})
	return api.OK
}

func (r *Run) sourceErrno(w int, n int) api.Errno {
	if !r.isWorker(w) || !graph.IsOfKind(r.graph, n, api.Source) {
		return api.ErrArg
	}
	if r.workers[w].sources[n].closed {
		return api.ErrClosed
	}
	return api.OK
}

func (r *Run) sourceTime(w int, n int) api.Time {
	return api.Time{Epoch: r.workers[w].sources[n].epoch}
}
