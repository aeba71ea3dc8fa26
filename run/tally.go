package run

import (
	"frontier/api"
	"frontier/values"
)

// tally is what a Sum of a worker added up, by time, and which times it wants.
type tally struct {
	wanted [api.MaxEpoch + 1][api.MaxRounds]bool
	groups [api.MaxEpoch + 1][api.MaxRounds]values.Groups
}

// add adds a value up in its group, its rest by k, and tells whether its time is
// wanted only since then.
func (t *tally) add(time api.Time, v int, k int) bool {
	t.groups[time.Epoch][time.Round].Add(v, k)
	already := t.wanted[time.Epoch][time.Round]
	t.wanted[time.Epoch][time.Round] = true
	return !already
}

// times answers the times that are wanted, in order.
func (t *tally) times() []api.Time {
	var all []api.Time
	for epoch := 0; epoch <= api.MaxEpoch; epoch++ {
		for round := 0; round < api.MaxRounds; round++ {
			if t.wanted[epoch][round] {
				all = append(all, api.Time{Epoch: epoch, Round: round})
			}
		}
	}
	return all
}

// take answers the sums at a time, which is no longer wanted, and forgets them.
func (t *tally) take(time api.Time) []int {
	sums := t.groups[time.Epoch][time.Round].Sums()
	t.groups[time.Epoch][time.Round] = values.Groups{}
	t.wanted[time.Epoch][time.Round] = false
	return sums
}
