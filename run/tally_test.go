package run

import (
	"slices"
	"testing"

	"frontier/api"
)

func mustWant(t *testing.T, sums *tally, want ...api.Time) {
	t.Helper()
	if list := sums.times(); !slices.Equal(list, want) {
		t.Errorf("P11: %+v are wanted, want %+v", list, want)
	}
}

func mustTake(t *testing.T, sums *tally, time api.Time, want ...int) {
	t.Helper()
	if list := sums.take(time); !slices.Equal(list, want) {
		t.Errorf("P11: the sums at %+v are %v, want %v", time, list, want)
	}
}

// TestTallyForgets asks what no run can show, since a time of which a node was notified does not come again.
func TestTallyForgets(t *testing.T) {
	var sums tally
	first, last := api.Time{}, api.Time{Epoch: api.MaxEpoch, Round: api.MaxRounds - 1}
	for _, v := range []int{5, -1, 7, 2} {
		if isNew := sums.add(last, v, 3); isNew != (v == 5) {
			t.Errorf("P11: that the time is wanted anew at %d is %v", v, isNew)
		}
	}
	sums.add(first, 9, 3)
	mustWant(t, &sums, first, last)
	mustTake(t, &sums, last, 7, 6)
	mustWant(t, &sums, first)
	mustTake(t, &sums, last)
	if !sums.add(last, 4, 3) {
		t.Errorf("P11: a time that was notified of is wanted still")
	}
	mustWant(t, &sums, first, last)
	mustTake(t, &sums, last, 4)
	mustTake(t, &sums, first, 9)
	mustWant(t, &sums)
}
