package frontier_test

import (
	"maps"
	"slices"
	"testing"

	"frontier/api"
	"frontier/frontier"
)

// watch looks at a run, behind each call, for what P13 rules out.
type watch struct {
	*twin
	// The times at which, as some worker's Frontier once said, nothing more comes, by node.
	past [api.MaxNodes]map[api.Time]bool
	// The times of which a node of a worker was notified.
	notified map[place][]api.Time
	waited   map[place][]api.Message
	// What may come out: how often each record is in the meaning of what was given.
	meaning map[api.Record]int
	given   int
}

func beginWatch(t *testing.T, g api.Graph, workers int) *watch {
	t.Helper()
	s := &watch{twin: beginTwin(t, g, workers), notified: map[place][]api.Time{}, waited: map[place][]api.Message{}, meaning: map[api.Record]int{}}
	for n := range s.past {
		s.past[n] = map[api.Time]bool{}
	}
	for w := 0; w < workers; w++ {
		s.look(w, api.Event{})
	}
	return s
}

// look is called behind each call of a worker, with the event if it was a Do.
func (s *watch) look(w int, event api.Event) {
	s.t.Helper()
	if event.Kind == api.Notify {
		at := place{event.Worker, event.Node}
		s.notified[at] = append(s.notified[at], when(event.Epoch, event.Round))
	}
	for x := 0; x < s.m.workers; x++ {
		for n := range s.m.g.Nodes {
			s.lookAtMessages(place{x, n}, event)
		}
	}
	// No other worker knows more than before.
	for n := range s.m.g.Nodes {
		s.lookAtFrontier(w, n)
	}
	s.lookAtOut()
}

func (s *watch) lookAtMessages(at place, event api.Event) {
	s.t.Helper()
	list, _ := s.r.Waiting(at.w, at.n)
	old := slices.Clone(s.waited[at])
	if event.Kind == api.Work && at == (place{event.Worker, event.Node}) {
		old = slices.Delete(old, event.Index, event.Index+1)
	}
	if len(list) < len(old) || !slices.Equal(list[:len(old)], old) {
		s.t.Fatalf("P8: at the node %d of the worker %d wait %+v, where %+v waited before %+v", at.n, at.w, list, s.waited[at], event)
	}
	for _, m := range list[len(old):] {
		if s.past[at.n][when(m.Epoch, m.Round)] {
			s.t.Fatalf("P13: %+v comes to the node %d of the worker %d, which a Frontier did not let come", m, at.n, at.w)
		}
	}
	for _, m := range list {
		for _, time := range s.notified[at] {
			if isUpTo(when(m.Epoch, m.Round), time) {
				s.t.Fatalf("P13: %+v waits at the node %d of the worker %d, which was notified of %+v", m, at.n, at.w, time)
			}
		}
	}
	s.waited[at] = list
}

func (s *watch) lookAtFrontier(w, n int) {
	s.t.Helper()
	times, _ := s.r.Frontier(w, n)
	for epoch := 0; epoch <= 5; epoch++ {
		for round := 0; round < s.m.g.Rounds; round++ {
			if !letsCome(times, when(epoch, round)) {
				s.past[n][when(epoch, round)] = true
			}
		}
	}
}

// lookAtOut: what came out is a part of the meaning.
func (s *watch) lookAtOut() {
	s.t.Helper()
	if s.given != len(s.m.given) {
		s.given = len(s.m.given)
		s.meaning = counted(wantedMeaning(s.m.g, s.m.given))
	}
	for one, count := range counted(s.r.Out()) {
		if count > s.meaning[one] {
			s.t.Fatalf("P13: %+v came out %d times, but is in the meaning %d times", one, count, s.meaning[one])
		}
	}
}

// counted tells how often each record is in a list, whatever its worker.
func counted(list []api.Record) map[api.Record]int {
	all := map[api.Record]int{}
	for _, one := range list {
		one.Worker = 0
		all[one]++
	}
	return all
}

// lookAtEnd: nothing is left, and all came out.
func (s *watch) lookAtEnd() {
	s.t.Helper()
	mustAct(s.t, s.r, 0)
	for w := 0; w < s.m.workers; w++ {
		mustView(s.t, s.r, w)
		for n := range s.m.g.Nodes {
			mustWait(s.t, s.r, w, n)
			mustCome(s.t, s.r, w, n)
		}
	}
	came := 0
	for _, count := range s.meaning {
		came += count
	}
	// What came out is a part of the meaning, so it is all of it if it is as long.
	if len(s.r.Out()) != came {
		s.t.Fatalf("P13: %+v came out of %+v, given %+v, want %+v", s.r.Out(), s.m.g, s.m.given, s.meaning)
	}
	meaning, errno := frontier.Meaning(s.m.g, s.m.given)
	if errno != api.OK || len(meaning) != came {
		s.t.Fatalf("P13: Meaning of %+v, given %+v, is %+v, %d, but %+v came out", s.m.g, s.m.given, meaning, errno, s.r.Out())
	}
}

// mood is a way of choosing what is done next: what it likes, if there is such.
type mood struct{ kind, worker, node int }

const moods = 9

func (o mood) likes(e api.Event) bool {
	switch o.kind {
	case 0:
		return true
	case 1:
		return e.Kind != api.Tell
	case 2:
		return e.Kind == api.Tell
	case 3:
		return e.Kind == api.Notify
	case 4: // One worker is heard of late.
		return e.Kind != api.Tell || e.Index != o.worker
	case 5: // One worker hears late.
		return e.Kind != api.Tell || e.Worker != o.worker
	case 6: // One worker works late.
		return e.Kind == api.Tell || e.Worker != o.worker
	case 7: // At one node is worked late.
		return e.Kind == api.Tell || e.Node != o.node
	}
	return e.Kind == api.Work && e.Index > 0
}

// choose answers the number of an action.
func (o mood) choose(d *dice, events []api.Event) int {
	var liked []int
	for k, e := range events {
		if o.likes(e) {
			liked = append(liked, k)
		}
	}
	// Now and then another one, or it would all be left to the end.
	if len(liked) == 0 || d.below(20) == 0 {
		return d.below(len(events))
	}
	return liked[d.below(len(liked))]
}

// runToEnd gives by dice, does actions between, closes all and does what is left.
func (s *watch) runToEnd(d *dice, o mood, calls int) (notified int) {
	s.t.Helper()
	for ; calls > 0; calls-- {
		w, n, v := d.below(s.m.workers), d.below(len(s.m.g.Nodes)), d.below(14)-5
		for tries := 0; tries < 5 && s.m.sourceErrno(w, n) == api.ErrArg; tries++ {
			n = d.below(len(s.m.g.Nodes))
		}
		switch d.below(10) {
		case 0, 1, 2, 3:
			s.give(w, n, v)
		case 4, 5:
			s.advance(w, n)
		case 6:
			if d.below(4) == 0 {
				s.close(w, n)
			}
		default:
			if events := s.m.actions(); len(events) > 0 {
				event := s.do(o.choose(d, events))
				s.look(event.Worker, event)
				continue
			}
		}
		s.look(w, api.Event{})
	}
	s.closeAll()
	for w := 0; w < s.m.workers; w++ {
		s.look(w, api.Event{})
	}
	for done := 0; ; done++ {
		events := s.m.actions()
		mustAct(s.t, s.r, len(events))
		if len(events) == 0 {
			break
		}
		if done > 100000 {
			s.t.Fatalf("P13: %+v runs on and on", s.m.g)
		}
		event := s.do(o.choose(d, events))
		s.look(event.Worker, event)
		if d.below(20) == 0 {
			mustBeAs(s.t, s.r, s.m)
		}
		if event.Kind == api.Notify {
			notified++
		}
	}
	s.lookAtEnd()
	mustBeAs(s.t, s.r, s.m)
	return notified
}

// loopedGraphs have Sums and Onces on cycles, ahead of them and behind, and ways of several lengths.
func loopedGraphs() []api.Graph {
	return []api.Graph{
		example(),
		graphOf(3, src(), merge(0, 3), sum(1, 2), back(2), sum(2, 1), sink(4), sink(2)),
		graphOf(4, src(), src(), merge(0, 1), merge(2, 6), once(3), add(4, 3), back(5), sum(4, 4)),
		graphOf(3, sink(4), src(), merge(1, 3), back(4), sum(2, 3), once(4), sum(5, 2), sink(6)),
		graphOf(2, src(), back(0), src(), merge(1, 2), sum(3, 1), add(4, 1), sum(5, 3), sink(6)),
		graphOf(4, once(3), src(), merge(0, 1), back(2), sum(0, 5), sink(4), pass(2, 3, 1), sink(6)),
		// A Sum behind a Sum behind a Sum, in one round.
		graphOf(1, src(), sum(0, 8), add(1, 3), sum(2, 3), once(3), sum(4, 2), sink(5), sink(3)),
		// Two Sums on one cycle, and a cycle in a cycle.
		graphOf(4, src(), merge(0, 5), sum(1, 4), add(2, 1), sum(3, 2), back(4), sink(4), sink(2)),
		graphOf(4, src(), merge(0, 3), merge(1, 5), back(2), sum(2, 2), back(4), sink(4)),
		// A short way and a long way to one Sum.
		graphOf(4, src(), back(0), back(1), back(2), merge(0, 3), sum(4, 2), sink(5)),
		graphOf(2, src(), once(0), sum(1, 3), merge(2, 1), once(3), sink(4), src(), sum(6, 1)),
	}
}

// TestEndsInEveryMood: whatever is done, in whatever order.
func TestEndsInEveryMood(t *testing.T) {
	d := &dice{state: 13}
	notified := 0
	for _, g := range loopedGraphs() {
		for workers := 1; workers <= api.MaxWorkers; workers++ {
			for kind := 0; kind < moods; kind++ {
				o := mood{kind, d.below(workers), d.below(len(g.Nodes))}
				notified += beginWatch(t, g, workers).runToEnd(d, o, 10+d.below(40))
			}
		}
	}
	if notified < 1000 {
		t.Errorf("only %d times were notified of", notified)
	}
}

func TestEndsOfManyGraphs(t *testing.T) {
	d := &dice{state: 14}
	notified, runs := 0, 0
	for i := 0; i < 4000; i++ {
		g := d.graph()
		if wantedErrno(g) != api.OK {
			continue
		}
		workers := 1 + d.below(api.MaxWorkers)
		o := mood{d.below(moods), d.below(workers), d.below(len(g.Nodes))}
		notified += beginWatch(t, g, workers).runToEnd(d, o, d.below(40))
		runs++
	}
	if notified < 200 || runs < 1000 {
		t.Errorf("of only %d runs only %d times were notified of", runs, notified)
	}
}

// TestEndsOfMuch takes a graph that makes thousands of messages of what is given: four of each, in each round.
func TestEndsOfMuch(t *testing.T) {
	g := graphOf(4, src(), merge(0, 6), add(1, 1), merge(1, 2), add(3, 10), merge(3, 4), back(5), sink(5))
	d := &dice{state: 15}
	for _, workers := range []int{1, 4} {
		r := mustBegin(t, g, workers)
		var given []api.Given
		for v := 0; v < api.MaxGiven; v++ {
			mustGive(t, r, v%workers, 0, v)
			given = append(given, api.Given{Value: v})
		}
		for w := 0; w < workers; w++ {
			mustClose(t, r, w, 0)
		}
		for count := r.Actions(); count > 0; count = r.Actions() {
			if event, errno := r.Do(d.below(count)); event.Kind == 0 || errno != api.OK {
				t.Fatalf("P11: a Do of %d actions = %+v, %d", count, event, errno)
			}
		}
		meaning, _ := frontier.Meaning(g, given)
		if len(meaning) != 6800 || !maps.Equal(counted(meaning), counted(r.Out())) {
			t.Errorf("P13: %d records came out, %d are the meaning, or others", len(r.Out()), len(meaning))
		}
		for w := 0; w < workers; w++ {
			mustView(t, r, w)
		}
	}
}
