package run

import (
	"frontier/api"
	"frontier/points"
)

// Actions answers how many actions there are (P10).
func (r *Run) Actions() int {
	count := 0
	for w := range r.workers {
		works := r.countWorks(w)
		others := r.notifiesAndTells(w)
		count += works + len(others)
	}
	return count
}

// action answers the action with the number k, as the event that doing it is,
// and whether there is one.
func (r *Run) action(k int) (api.Event, bool) {
	if k < 0 {
		return api.Event{}, false
	}
	for w := range r.workers {
		works := r.countWorks(w)
		if k < works {
			return r.workWithNumber(w, k), true
		}
		k -= works
		others := r.notifiesAndTells(w)
		if k < len(others) {
			return others[k], true
		}
		k -= len(others)
	}
	return api.Event{}, false
}

// countWorks answers how many messages wait on a worker. They are counted and not
// listed, since there can be thousands of them.
func (r *Run) countWorks(w int) int {
	count := 0
	for n := range r.graph.Nodes {
		count += len(r.workers[w].waiting[n])
	}
	return count
}

func (r *Run) workWithNumber(w int, k int) api.Event {
	for n := range r.graph.Nodes {
		here := len(r.workers[w].waiting[n])
		if k < here {
			message := r.workers[w].waiting[n][k]
			return api.Event{Kind: api.Work, Worker: w, Node: n, Index: k, Epoch: message.Epoch, Round: message.Round, Value: message.Value}
		}
		k -= here
	}
	return api.Event{}
}

func (r *Run) notifiesAndTells(w int) []api.Event {
	notifies := r.notifies(w)
	tells := r.tells(w)
	return append(notifies, tells...)
}

func (r *Run) notifies(w int) []api.Event {
	var all []api.Event
	for n := range r.graph.Nodes {
		wanted := r.workers[w].tallies[n].times()
		// To find a Frontier takes longer than all else here.
		if len(wanted) == 0 {
			continue
		}
		coming, _ := r.Frontier(w, n)
		for _, time := range wanted {
			if !points.HasUpTo(coming, time) {
				all = append(all, api.Event{Kind: api.Notify, Worker: w, Node: n, Epoch: time.Epoch, Round: time.Round})
			}
		}
	}
	return all
}

func (r *Run) tells(w int) []api.Event {
	var all []api.Event
	for x := range r.workers {
		if len(r.workers[w].onTheWay[x]) > 0 {
			all = append(all, api.Event{Kind: api.Tell, Worker: w, Index: x})
		}
	}
	return all
}
