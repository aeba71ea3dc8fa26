package frontier_test

import (
	"slices"
	"testing"

	"frontier/api"
	"frontier/frontier"
)

// TestCallsEnd makes graphs and lists of wild numbers: P1 is broken by a panic,
// by a call that does not end, and by a result beside an error.
func TestCallsEnd(t *testing.T) {
	wild := []int{least, least + 1, -1 << 32, -9, -1, 0, 0, 0, 1, 2, 3, 4, 5, 6, 7, 8, 9, 1 << 32, greatest - 1, greatest}
	d := &dice{state: 4}
	any := func() int { return wild[d.below(len(wild))] }
	for i := 0; i < 40000; i++ {
		g := d.graph()
		for changes := d.below(4); changes > 0; changes-- {
			g.Nodes[d.below(len(g.Nodes))] = api.Node{Kind: any(), A: any(), B: any(), K: any(), M: any()}
		}
		if d.below(8) == 0 {
			g.Rounds = any()
		}
		want := wantedErrno(g)
		mustCheck(t, g, want)
		far, errno := frontier.Distance(g, any(), any())
		if errno != api.OK && far != 0 || want != api.OK && errno != want {
			t.Errorf("P1: a Distance of %+v = %d, %d", g, far, errno)
		}
		given := make([]api.Given, d.below(24))
		for j := range given {
			given[j] = api.Given{Node: any(), Epoch: any(), Value: any()}
		}
		list, errno := frontier.Meaning(g, given)
		if errno != api.OK && list != nil || want != api.OK && errno != want {
			t.Errorf("P1: Meaning(%+v, %+v) = %+v, %d", g, given, list, errno)
		}
	}
}

func TestCallsEndAtGreatLists(t *testing.T) {
	g := api.Graph{Nodes: make([]api.Node, 1000000), Rounds: 1}
	for n := range g.Nodes {
		g.Nodes[n] = add(n, 1)
	}
	mustCheck(t, g, api.ErrGraph)
	mustDistance(t, g, 0, 1, 0, api.ErrGraph)
	mustNotMean(t, g, make([]api.Given, 1000000), api.ErrGraph)
	mustNotMean(t, example(), make([]api.Given, 1000000), api.ErrRoom)
}

// TestMeaningOfMuch takes a graph in which three Merges and two loops make much of what is given.
func TestMeaningOfMuch(t *testing.T) {
	g := graphOf(4, src(), merge(3, 4), merge(3, 1), merge(0, 4), back(2), sink(2), sink(1), sink(4))
	given := make([]api.Given, api.MaxGiven)
	mustMean(t, g, given, wantedMeaning(g, given)...)
}

// roomy is a copy of g whose list of nodes has spare room, filled with a mark.
func roomy(g api.Graph) api.Graph {
	nodes := make([]api.Node, len(g.Nodes)+4)
	for n := range nodes {
		nodes[n] = api.Node{Kind: 77, A: 77, B: 77, K: 77, M: 77}
	}
	copy(nodes, g.Nodes)
	return api.Graph{Nodes: nodes[:len(g.Nodes)], Rounds: g.Rounds}
}

func withRoom(g api.Graph) api.Graph {
	return api.Graph{Nodes: g.Nodes[:cap(g.Nodes)], Rounds: g.Rounds}
}

func TestNothingIsWrittenInto(t *testing.T) {
	d := &dice{state: 5}
	graphs := []api.Graph{example(), knotted(), {}, graphOf(0, src())}
	for len(graphs) < 3000 {
		graphs = append(graphs, d.graph())
	}
	for _, g := range graphs {
		handed := roomy(g)
		before := copyOf(withRoom(handed))
		room := append(d.given(g), at(77, 77, 77, 77)...)
		given := room[:len(room)-2]
		givenBefore := append([]api.Given(nil), room...)
		frontier.Check(handed)
		frontier.Distance(handed, 0, len(g.Nodes)-1)
		frontier.Meaning(handed, given)
		frontier.Meaning(handed, room)
		if !sameGraph(withRoom(handed), before) {
			t.Fatalf("P2: the graph %+v was written into: %+v", before, withRoom(handed))
		}
		for i := range room {
			if room[i] != givenBefore[i] {
				t.Fatalf("P2: what was given, %+v, was written into: %+v", givenBefore, room)
			}
		}
	}
}

func TestCyclesAreTheCallers(t *testing.T) {
	g := knotted()
	_, first := frontier.Check(g)
	kept := append([]int(nil), first...)
	_, second := frontier.Check(g)
	overwrite(second, -77)
	if !slices.Equal(first, kept) {
		t.Errorf("P2: a cycle became %v, was %v, when another was written over", first, kept)
	}
	overwrite(first, -77)
	_, third := frontier.Check(g)
	if !slices.Equal(third, kept) {
		t.Errorf("P2: Check tells %v, behind a cycle that was written over, ahead of it %v", third, kept)
	}
	// What was handed in may be changed too, and the cycle stays.
	g.Nodes[1], g.Nodes[2] = src(), src()
	if !slices.Equal(third, kept) {
		t.Errorf("P2: a cycle became %v, was %v, when the graph was changed", third, kept)
	}
	mustCheck(t, g, api.OK)
}

func TestRecordsAreTheCallers(t *testing.T) {
	g := graphOf(3, src(), merge(0, 2), back(1), sink(1), sink(2), sink(0))
	given := append(at(0, 0, 1, 3, 3), at(0, 5, 2)...)
	want := wantedMeaning(g, given)
	first, _ := frontier.Meaning(g, given)
	second, _ := frontier.Meaning(g, given)
	overwrite(second, api.Record{Node: -77, Worker: -77, Epoch: -77, Round: -77, Value: -77})
	if !slices.Equal(first, want) {
		t.Errorf("P2: records became %+v, were %+v, when others were written over", first, want)
	}
	overwrite(first, api.Record{Node: -77, Worker: -77, Epoch: -77, Round: -77, Value: -77})
	third, _ := frontier.Meaning(g, given)
	if !slices.Equal(third, want) {
		t.Errorf("P2: Meaning tells %+v, behind records that were written over, ahead of it %+v", third, want)
	}
	given[0].Value, given[1].Epoch = 100, 4
	g.Nodes[5] = add(0, 1)
	if !slices.Equal(third, want) {
		t.Errorf("P2: records became %+v, were %+v, when what was handed in was changed", third, want)
	}
	mustMean(t, g, given, wantedMeaning(g, given)...)
}

// TestCallsDoNotHangTogether makes each call ahead of and behind others, errors among them.
func TestCallsDoNotHangTogether(t *testing.T) {
	for i := 0; i < 3; i++ {
		mustCheck(t, example(), api.OK)
		mustNotMean(t, knotted(), at(0, 0, 1), api.ErrCycle)
		mustDistance(t, example(), 2, 2, 1, api.OK)
		mustCheck(t, knotted(), api.ErrCycle)
		mustNotMean(t, example(), at(1, 0, 1), api.ErrArg)
		mustMean(t, example(), at(0, 0, 1, 3), join(came(6, 0, 0, 6), came(6, 0, 1, 8))...)
		mustDistance(t, api.Graph{}, 2, 2, 0, api.ErrGraph)
	}
}
