package run

import (
	"frontier/api"
	"frontier/values"
)

// Do does the action with the number k (P11).
func (r *Run) Do(k int) (api.Event, api.Errno) {
	event, found := r.action(k)
	if !found {
		return api.Event{}, api.ErrArg
	}
	time := api.Time{Epoch: event.Epoch, Round: event.Round}
	switch event.Kind {
	case api.Work:
		r.takeMessage(event.Worker, event.Node, event.Index)
		r.work(event.Worker, event.Node, time, event.Value)
	case api.Notify:
		r.notify(event.Worker, event.Node, time)
	case api.Tell:
		r.tell(event.Worker, event.Index)
	}
	return event, api.OK
}

// takeMessage lets a message wait no longer.
func (r *Run) takeMessage(w int, n int, i int) {
	one := &r.workers[w]
	last := len(one.waiting[n]) - 1
	for ; i < last; i++ {
		one.waiting[n][i] = one.waiting[n][i+1]
	}
	one.waiting[n] = one.waiting[n][:last]
}

func (r *Run) work(w int, n int, time api.Time, v int) {
	change := []api.Point{in(n, time, -1)}
	more := r.workAt(w, n, time, v)
	change = append(change, more...)
	r.makeChange(w, change)
}

// workAt lets a node do what it does with a value at a time, and answers what
// that does to points.
func (r *Run) workAt(w int, n int, time api.Time, v int) []api.Point {
	node := r.graph.Nodes[n]
	switch node.Kind {
	case api.Add:
		return r.putOut(w, n, time, v+node.K)
	case api.Pass:
		if values.Rest(v, node.K) == node.M {
			return r.putOut(w, n, time, v)
		}
	case api.Merge:
		return r.putOut(w, n, time, v)
	case api.Back:
		if time.Round+1 < r.graph.Rounds {
			later := api.Time{Epoch: time.Epoch, Round: time.Round + 1}
			return r.putOut(w, n, later, v)
		}
	case api.Once:
		first := r.letsBy(w, n, time, v)
		if first {
			return r.putOut(w, n, time, v)
		}
	case api.Sum:
		isNew := r.workers[w].tallies[n].add(time, v, node.K)
		if isNew {
			return []api.Point{out(n, time, 1)}
		}
	case api.Sink:
		r.records = append(r.records, api.Record{Node: n, Worker: w, Epoch: time.Epoch, Round: time.Round, Value: v})
	}
	return nil
}

// letsBy tells whether a value is the first of its kind at a Once at this time,
// and remembers it.
func (r *Run) letsBy(w int, n int, time api.Time, v int) bool {
	one := &r.workers[w]
	message := api.Message{Epoch: time.Epoch, Round: time.Round, Value: v}
	for _, earlier := range one.letBy[n] {
		if earlier == message {
			return false
		}
	}
	one.letBy[n] = append(one.letBy[n], message)
	return true
}

func (r *Run) notify(w int, n int, time api.Time) {
	sums := r.workers[w].tallies[n].take(time)
	change := []api.Point{out(n, time, -1)}
	for _, sum := range sums {
		more := r.putOut(w, n, time, sum)
		change = append(change, more...)
	}
	r.makeChange(w, change)
}

// tell lets the worker w believe the earliest change that is on its way from x.
func (r *Run) tell(w int, x int) {
	one := &r.workers[w]
	one.believed.Believe(one.onTheWay[x][0])
	one.onTheWay[x] = one.onTheWay[x][1:]
}
