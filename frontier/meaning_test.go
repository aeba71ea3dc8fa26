package frontier_test

import (
	"slices"
	"testing"

	"frontier/api"
	"frontier/frontier"
)

func mustMean(t *testing.T, g api.Graph, given []api.Given, want ...api.Record) {
	t.Helper()
	list, errno := frontier.Meaning(g, given)
	if errno != api.OK || !slices.Equal(list, want) {
		t.Errorf("P5: Meaning(%+v, %+v) = %+v, %d, want %+v", g, given, list, errno, want)
	}
}

func mustNotMean(t *testing.T, g api.Graph, given []api.Given, want api.Errno) {
	t.Helper()
	list, errno := frontier.Meaning(g, given)
	if errno != want || list != nil {
		t.Errorf("P5: Meaning(%+v, %+v) = %+v, %d, want nil, %d", g, given, list, errno, want)
	}
}

// at gives the values to a Source in an epoch.
func at(node, epoch int, values ...int) []api.Given {
	var all []api.Given
	for _, v := range values {
		all = append(all, api.Given{Node: node, Epoch: epoch, Value: v})
	}
	return all
}

// came is the records of values that came to a Sink at a time.
func came(node, epoch, round int, values ...int) []api.Record {
	var all []api.Record
	for _, v := range values {
		all = append(all, api.Record{Node: node, Epoch: epoch, Round: round, Value: v})
	}
	return all
}

func join(lists ...[]api.Record) []api.Record {
	var all []api.Record
	for _, list := range lists {
		all = append(all, list...)
	}
	return all
}

func TestMeaningExample(t *testing.T) {
	mustMean(t, example(), at(0, 0, 1, 3), join(came(6, 0, 0, 6), came(6, 0, 1, 8))...)
	mustMean(t, example(), nil)
	mustMean(t, graphOf(1, src()), at(0, 0, 1))
}

func TestMeaningOfEachKind(t *testing.T) {
	mustMean(t, graphOf(1, src(), sink(0)), at(0, 0, 3, least, 3, greatest, -1), came(1, 0, 0, least, -1, 3, 3, greatest)...)
	mustMean(t, graphOf(1, src(), add(0, -2), sink(1)), at(0, 0, 5, 1, least), came(2, 0, 0, -1, 3, greatest-1)...)
	mustMean(t, graphOf(1, src(), pass(0, 3, 1), sink(1)), at(0, 0, 1, 2, 3, 4, -1, -2, -3, -5), came(2, 0, 0, -5, -2, 1, 4)...)
	mustMean(t, graphOf(1, src(), pass(0, 100, 99), sink(1)), at(0, 0, 99, -1, 100, greatest), came(2, 0, 0, -1, 99)...)
	mustMean(t, graphOf(1, src(), pass(0, 8, 0), sink(1)), at(0, 0, least, greatest, 4), came(2, 0, 0, least)...)
	mustMean(t, graphOf(1, src(), src(), merge(0, 1), sink(2)), append(at(0, 0, 2, 1), at(1, 0, 2)...), came(3, 0, 0, 1, 2, 2)...)
	mustMean(t, graphOf(1, src(), once(0), sink(1)), append(at(0, 0, 2, 1, 2, 2), at(0, 1, 2)...), join(came(2, 0, 0, 1, 2), came(2, 1, 0, 2))...)
	mustMean(t, graphOf(1, src(), sum(0, 3), sink(1)), at(0, 0, 4, -2, 5, 8), came(2, 0, 0, 2, 13)...)
	mustMean(t, graphOf(1, src(), sum(0, 1), sink(1)), at(0, 0, greatest, 1), came(2, 0, 0, least)...)
	mustMean(t, graphOf(1, src(), sum(0, 8), sink(1)), at(0, 0, 7, -1, 15), came(2, 0, 0, 21)...)
}

func TestMeaningSumOfZero(t *testing.T) {
	mustMean(t, graphOf(1, src(), sum(0, 2), sink(1)), at(0, 0, 2, -2), came(2, 0, 0, 0)...)
	mustMean(t, graphOf(1, src(), sum(0, 2), sink(1)), at(0, 0, 2, -2, 1, -1), came(2, 0, 0, 0, 0)...)
}

func TestMeaningOfBack(t *testing.T) {
	// Only the rounds that there are; the next epoch is none of them.
	line := []api.Node{src(), back(0), sink(1), sink(0)}
	mustMean(t, graphOf(1, line...), at(0, 0, 7), came(3, 0, 0, 7)...)
	mustMean(t, graphOf(2, line...), at(0, 5, 7), join(came(2, 5, 1, 7), came(3, 5, 0, 7))...)
	mustMean(t, graphOf(2, line...), append(at(0, 0, 7), at(0, 1, 8)...), join(came(2, 0, 1, 7), came(2, 1, 1, 8), came(3, 0, 0, 7), came(3, 1, 0, 8))...)
	mustMean(t, graphOf(4, src(), back(0), back(1), sink(2)), at(0, 0, 7), came(3, 0, 2, 7)...)
	mustMean(t, graphOf(2, src(), back(0), back(1), sink(2)), at(0, 0, 7))
	// Backs in the other order of their numbers.
	mustMean(t, graphOf(4, sink(1), back(2), back(3), src()), at(3, 0, 7), came(0, 0, 2, 7)...)
	// Nothing comes out of a Back that goes round alone.
	mustMean(t, graphOf(4, src(), back(1), sink(1)), at(0, 0, 7))
	// Each round adds, each time sums and tells once apart from others.
	mustMean(t, graphOf(3, src(), merge(0, 3), add(1, 1), back(2), sink(1)), at(0, 0, 0), join(came(4, 0, 0, 0), came(4, 0, 1, 1), came(4, 0, 2, 2))...)
	mustMean(t, graphOf(2, src(), merge(0, 3), once(1), back(2), sink(2)), at(0, 0, 4, 4), join(came(4, 0, 0, 4), came(4, 0, 1, 4))...)
	mustMean(t, graphOf(2, src(), merge(0, 3), sum(1, 2), back(2), sink(2)), at(0, 1, 1, 3, 5, 2), join(came(4, 1, 0, 2, 9), came(4, 1, 1, 2, 9))...)
}

func TestMeaningOrder(t *testing.T) {
	g := graphOf(2, sink(3), src(), back(3), merge(1, 2), sink(2), sink(1))
	given := append(at(1, 3, 5, -5), at(1, 0, 9, 2)...)
	mustMean(t, g, given, join(
		came(0, 0, 0, 2, 9), came(0, 0, 1, 2, 9), came(0, 3, 0, -5, 5), came(0, 3, 1, -5, 5),
		came(4, 0, 1, 2, 9), came(4, 3, 1, -5, 5),
		came(5, 0, 0, 2, 9), came(5, 3, 0, -5, 5))...)
}

func TestMeaningErrors(t *testing.T) {
	g := example()
	many := make([]api.Given, api.MaxGiven+1)
	none := graphOf(1, src(), sum(0, 0))
	mustNotMean(t, none, nil, api.ErrGraph)
	mustNotMean(t, none, many, api.ErrGraph)
	mustNotMean(t, knotted(), nil, api.ErrCycle)
	mustNotMean(t, knotted(), many, api.ErrCycle)
	mustNotMean(t, g, many, api.ErrRoom)
	many[3].Node = 1
	many[4].Epoch = -1
	mustNotMean(t, g, many, api.ErrRoom)
	mustNotMean(t, g, make([]api.Given, 100000), api.ErrRoom)
	mustMean(t, g, make([]api.Given, api.MaxGiven), came(6, 0, 0, 20)...)
	for _, wrong := range []int{least, -1, 1, 2, 3, 4, 5, 6, 7, 8, greatest} {
		mustNotMean(t, g, at(wrong, 0, 1), api.ErrArg)
		mustNotMean(t, g, append(at(0, 0, 1, 2), at(wrong, 0, 1)...), api.ErrArg)
	}
	for _, wrong := range []int{least, -1, 6, 7, greatest} {
		mustNotMean(t, g, at(0, wrong, 1), api.ErrArg)
		mustNotMean(t, g, append(at(0, wrong, 1), at(0, 0, 1, 2)...), api.ErrArg)
	}
	for epoch := 0; epoch <= api.MaxEpoch; epoch++ {
		mustMean(t, g, at(0, epoch, 2), came(6, epoch, 0, 3)...)
	}
}

func TestMeaningManyGraphs(t *testing.T) {
	d := &dice{state: 3}
	tried, records := 0, 0
	for i := 0; i < 60000; i++ {
		g := d.graph()
		if wantedErrno(g) != api.OK {
			continue
		}
		given := d.given(g)
		want := wantedMeaning(g, given)
		mustMean(t, g, given, want...)
		if len(want) > 0 {
			tried++
			records += len(want)
		}
	}
	if tried < 500 || records < 5000 {
		t.Errorf("only %d graphs with %d records were tried", tried, records)
	}
}
