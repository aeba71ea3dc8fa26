package frontier_test

import (
	"slices"
	"testing"

	"frontier/api"
	"frontier/frontier"
)

// TestDoExample is the document's run of one worker.
func TestDoExample(t *testing.T) {
	r := mustBegin(t, example(), 1)
	mustGive(t, r, 0, 0, 1)
	mustDo(t, r, 0, work(0, 1, 0, 0, 0, 1))
	mustWait(t, r, 0, 1)
	mustDo(t, r, 0, work(0, 2, 0, 0, 0, 1))
	mustWait(t, r, 0, 3, message(0, 0, 2))
	mustWait(t, r, 0, 5, message(0, 0, 2))
	mustDo(t, r, 1, work(0, 5, 0, 0, 0, 2))
	mustView(t, r, 0, out(0, 0, 0, 1), in(3, 0, 0, 1), out(5, 0, 0, 1))
	mustCome(t, r, 0, 5, when(0, 0))
	mustAct(t, r, 1)
	mustAdvance(t, r, 0, 0)
	mustDo(t, r, 0, work(0, 3, 0, 0, 0, 2))
	mustDo(t, r, 0, work(0, 4, 0, 0, 0, 2))
	mustDo(t, r, 0, work(0, 1, 0, 0, 1, 2))
	mustDo(t, r, 0, work(0, 2, 0, 0, 1, 2))
	mustDo(t, r, 0, work(0, 3, 0, 0, 1, 3))
	mustDo(t, r, 0, work(0, 5, 0, 0, 1, 3))
	mustCome(t, r, 0, 5, when(1, 0))
	mustAct(t, r, 2)
	mustDo(t, r, 0, notify(0, 5, 0, 0))
	mustWait(t, r, 0, 6, message(0, 0, 2))
	mustDo(t, r, 1, notify(0, 5, 0, 1))
	mustWait(t, r, 0, 6, message(0, 0, 2), message(0, 1, 3))
	mustComeOut(t, r)
	mustDo(t, r, 1, work(0, 6, 1, 0, 1, 3))
	mustDo(t, r, 0, work(0, 6, 0, 0, 0, 2))
	mustComeOut(t, r, record(6, 0, 0, 1, 3), record(6, 0, 0, 0, 2))
	mustAct(t, r, 0)
}

// TestDoExampleOfTwo: of two workers, what one does is believed by the other behind a TELL.
func TestDoExampleOfTwo(t *testing.T) {
	r := mustBegin(t, example(), 2)
	mustGive(t, r, 0, 0, 1)
	mustView(t, r, 1, out(0, 0, 0, 2))
	mustDo(t, r, 0, work(0, 1, 0, 0, 0, 1))
	mustView(t, r, 0, out(0, 0, 0, 2), in(2, 0, 0, 1))
	mustView(t, r, 1, out(0, 0, 0, 2))
	mustDo(t, r, 1, tell(1, 0))
	mustView(t, r, 1, out(0, 0, 0, 2), in(1, 0, 0, 1))
	mustDo(t, r, 1, tell(1, 0))
	mustView(t, r, 1, out(0, 0, 0, 2), in(2, 0, 0, 1))
	mustAct(t, r, 1)
}

// TestEventOfWork has a number other than 0 in each field.
func TestEventOfWork(t *testing.T) {
	r := mustBegin(t, graphOf(3, src(), back(0), once(1), sink(2)), 4)
	for epoch := 0; epoch < 2; epoch++ {
		mustAdvance(t, r, 1, 0)
	}
	mustGive(t, r, 1, 0, 7, -5)
	mustDo(t, r, 1, work(1, 1, 0, 2, 0, 7))
	mustDo(t, r, 1, work(1, 1, 0, 2, 0, -5))
	mustWait(t, r, 3, 2, message(2, 1, 7), message(2, 1, -5))
	// Ahead of it are TELLs to the workers 0 and 2, and the WORK of the 7.
	event, errno := r.Do(3)
	want := api.Event{Kind: 1, Worker: 3, Node: 2, Index: 1, Epoch: 2, Round: 1, Value: -5}
	if event != want || errno != api.OK {
		t.Fatalf("P11: Do(3) = %+v, %d, want %+v", event, errno, want)
	}
	mustWait(t, r, 3, 2, message(2, 1, 7))
	mustWait(t, r, 3, 3, message(2, 1, -5))
}

// TestEventOfNotifyAndTell: Index and Value of NOTIFY, and all but Worker and Index of TELL, are 0.
func TestEventOfNotifyAndTell(t *testing.T) {
	r := mustBegin(t, graphOf(3, src(), back(0), sum(1, 2), sink(2)), 2)
	mustClose(t, r, 0, 0)
	mustAdvance(t, r, 1, 0)
	mustGive(t, r, 1, 0, 5)
	mustDo(t, r, 1, work(1, 1, 0, 1, 0, 5))
	mustDo(t, r, 1, work(1, 2, 0, 1, 1, 5))
	mustClose(t, r, 1, 0)
	event, errno := r.Do(1)
	if want := (api.Event{Kind: 3, Worker: 1}); event != want || errno != api.OK {
		t.Fatalf("P11: Do(1) = %+v, %d, want %+v", event, errno, want)
	}
	event, errno = r.Do(1)
	if want := (api.Event{Kind: 2, Worker: 1, Node: 2, Epoch: 1, Round: 1}); event != want || errno != api.OK {
		t.Fatalf("P11: Do(1) = %+v, %d, want %+v", event, errno, want)
	}
	event, errno = r.Do(0)
	if want := (api.Event{Kind: 3, Index: 1}); event != want || errno != api.OK {
		t.Fatalf("P11: Do(0) = %+v, %d, want %+v", event, errno, want)
	}
}

// TestWorkTakesTheOne: the message that was worked at waits no longer, the others do, in their order.
func TestWorkTakesTheOne(t *testing.T) {
	r := mustBegin(t, graphOf(1, src(), add(0, 0), sink(1)), 1)
	mustGive(t, r, 0, 0, 10, 11, 12, 13, 11, 14)
	mustDo(t, r, 2, work(0, 1, 2, 0, 0, 12))
	mustWait(t, r, 0, 1, messages(0, 10, 11, 13, 11, 14)...)
	mustDo(t, r, 4, work(0, 1, 4, 0, 0, 14))
	mustWait(t, r, 0, 1, messages(0, 10, 11, 13, 11)...)
	mustDo(t, r, 0, work(0, 1, 0, 0, 0, 10))
	mustWait(t, r, 0, 1, messages(0, 11, 13, 11)...)
	mustDo(t, r, 2, work(0, 1, 2, 0, 0, 11))
	mustGive(t, r, 0, 0, 15)
	mustWait(t, r, 0, 1, messages(0, 11, 13, 15)...)
	mustWait(t, r, 0, 2, messages(0, 12, 14, 10, 11)...)
	mustView(t, r, 0, out(0, 0, 0, 1), in(1, 0, 0, 3), in(2, 0, 0, 4))
}

// workAtAll works at all that waits at a node of the only worker, the first first.
func workAtAll(t *testing.T, r *frontier.Run, n int) {
	t.Helper()
	waiting, _ := r.Waiting(0, n)
	for _, m := range waiting {
		ahead := 0
		for other := 0; other < n; other++ {
			list, _ := r.Waiting(0, other)
			ahead += len(list)
		}
		mustDo(t, r, ahead, work(0, n, 0, m.Epoch, m.Round, m.Value))
	}
	mustWait(t, r, 0, n)
}

func TestWorkAtAdd(t *testing.T) {
	mustHaveSteps(t, graphOf(1, src(), add(0, greatest), sink(1)), []int{0, 1, 2, -1, least, greatest}, greatest, least, least+1, greatest-1, -1, -2)
	mustHaveSteps(t, graphOf(1, src(), add(0, -1), sink(1)), []int{0, 1, least, greatest}, -1, 0, greatest, greatest-1)
	mustHaveSteps(t, graphOf(1, src(), add(0, 0), sink(1)), []int{4, 4, least}, 4, 4, least)
}

// mustHaveSteps gives values and tells what the node 1 makes of them.
func mustHaveSteps(t *testing.T, g api.Graph, given []int, want ...int) {
	t.Helper()
	r := mustBegin(t, g, 1)
	mustGive(t, r, 0, 0, given...)
	workAtAll(t, r, 1)
	mustWait(t, r, 0, 2, messages(0, want...)...)
	points := []api.Point{out(0, 0, 0, 1)}
	if len(want) > 0 {
		points = append(points, in(2, 0, 0, len(want)))
	}
	mustView(t, r, 0, points...)
}

func TestWorkAtPass(t *testing.T) {
	given := []int{-7, -6, -5, -4, -3, -2, -1, 0, 1, 2, 3, 4, 5, 6, 7, least, greatest}
	mustHaveSteps(t, graphOf(1, src(), pass(0, 3, 1), sink(1)), given, -5, -2, 1, 4, 7, least, greatest)
	mustHaveSteps(t, graphOf(1, src(), pass(0, 3, 2), sink(1)), given, -7, -4, -1, 2, 5)
	mustHaveSteps(t, graphOf(1, src(), pass(0, 1, 0), sink(1)), given, given...)
	mustHaveSteps(t, graphOf(1, src(), pass(0, 100, 99), sink(1)), []int{-1, 99, 1, -99, 199, 100}, -1, 99, 199)
	mustHaveSteps(t, graphOf(1, src(), pass(0, 100, 50), sink(1)), []int{1, 2, -49})
}

// TestWorkAtMerge: what a Merge puts out is behind what another put out to the same node before.
func TestWorkAtMerge(t *testing.T) {
	r := mustBegin(t, graphOf(1, src(), merge(2, 0), src(), merge(1, 2), sink(3)), 1)
	mustGive(t, r, 0, 0, 5)
	mustGive(t, r, 0, 2, 6)
	mustWait(t, r, 0, 3, messages(0, 6)...)
	mustDo(t, r, 1, work(0, 1, 1, 0, 0, 6))
	mustDo(t, r, 0, work(0, 1, 0, 0, 0, 5))
	mustWait(t, r, 0, 3, messages(0, 6, 6, 5)...)
	workAtAll(t, r, 3)
	mustWait(t, r, 0, 4, messages(0, 6, 6, 5)...)
}

// TestWorkAtBack: a round later, in the same epoch, and nothing in the last round.
func TestWorkAtBack(t *testing.T) {
	for rounds := 1; rounds <= api.MaxRounds; rounds++ {
		r := mustBegin(t, graphOf(rounds, src(), merge(0, 2), back(1), sink(2)), 1)
		mustGive(t, r, 0, 0, 8)
		mustAdvance(t, r, 0, 0)
		mustGive(t, r, 0, 0, -8)
		mustClose(t, r, 0, 0)
		var came []api.Message
		for round := 0; round < rounds; round++ {
			mustWait(t, r, 0, 1, message(0, round, 8), message(1, round, -8))
			workAtAll(t, r, 1)
			mustWait(t, r, 0, 2, message(0, round, 8), message(1, round, -8))
			workAtAll(t, r, 2)
			if round+1 < rounds {
				came = append(came, message(0, round+1, 8), message(1, round+1, -8))
			}
			mustWait(t, r, 0, 3, came...)
		}
		mustWait(t, r, 0, 1)
		workAtAll(t, r, 3)
		mustView(t, r, 0)
		mustAct(t, r, 0)
	}
}

// TestWorkAtOnce: the first of a value is asked for at each time and node anew.
func TestWorkAtOnce(t *testing.T) {
	r := mustBegin(t, graphOf(3, src(), merge(0, 3), once(1), back(2), once(0), sink(2), sink(4)), 1)
	mustGive(t, r, 0, 0, 4, 5, 4)
	mustAdvance(t, r, 0, 0)
	mustGive(t, r, 0, 0, 4, 4)
	workAtAll(t, r, 4)
	mustWait(t, r, 0, 6, message(0, 0, 4), message(0, 0, 5), message(1, 0, 4))
	mustGive(t, r, 0, 0, 5)
	var came []api.Message
	for round := 0; round < 3; round++ {
		workAtAll(t, r, 1)
		workAtAll(t, r, 2)
		came = append(came, message(0, round, 4), message(0, round, 5), message(1, round, 4), message(1, round, 5))
		mustWait(t, r, 0, 5, came...)
		workAtAll(t, r, 3)
	}
	// What came once is known however late it comes again.
	mustGive(t, r, 0, 0, 5, 4, 6)
	workAtAll(t, r, 1)
	workAtAll(t, r, 2)
	mustWait(t, r, 0, 5, append(came, message(1, 0, 6))...)
	workAtAll(t, r, 4)
	mustWait(t, r, 0, 6, message(0, 0, 4), message(0, 0, 5), message(1, 0, 4), message(1, 0, 5), message(1, 0, 6))
}

// TestWorkAtOnceIsTheFirstDone: the first is the one that is worked at first, not the one that came first.
func TestWorkAtOnceIsTheFirstDone(t *testing.T) {
	r := mustBegin(t, graphOf(1, src(), once(0), sink(1)), 1)
	mustGive(t, r, 0, 0, 3, 2, 3)
	mustDo(t, r, 2, work(0, 1, 2, 0, 0, 3))
	mustWait(t, r, 0, 2, messages(0, 3)...)
	mustDo(t, r, 1, work(0, 1, 1, 0, 0, 2))
	mustDo(t, r, 0, work(0, 1, 0, 0, 0, 3))
	mustWait(t, r, 0, 2, messages(0, 3, 2)...)
	// A value that is not let by is a message less all the same.
	mustView(t, r, 0, out(0, 0, 0, 1), in(2, 0, 0, 2))
}

// TestOnceOfSeveralWorkers: equal values meet on one worker, whoever put them out.
func TestOnceOfSeveralWorkers(t *testing.T) {
	r := mustBegin(t, graphOf(1, src(), add(0, 1), once(1), sink(2)), 3)
	for w := 0; w < 3; w++ {
		mustGive(t, r, w, 0, -3, 6)
	}
	d := &dice{state: 12}
	for r.Actions() > 0 {
		r.Do(d.below(r.Actions()))
	}
	came := r.Out()
	if len(came) != 2 {
		t.Fatalf("P11: %+v came out, want a -2 and a 7 of the worker 1", came)
	}
	for _, one := range came {
		if one != record(3, 1, 0, 0, -2) && one != record(3, 1, 0, 0, 7) {
			t.Errorf("P11: %+v came out, want a -2 and a 7 of the worker 1", came)
		}
	}
}

// TestWorkAtSum: groups, values below 0, sums that wrap, and a sum of 0, each at its own time.
func TestWorkAtSum(t *testing.T) {
	r := mustBegin(t, graphOf(2, src(), sum(0, 4), sink(1)), 1)
	mustGive(t, r, 0, 0, 5, -1, 8, -8, 3, 1, greatest, -3)
	mustAdvance(t, r, 0, 0)
	mustGive(t, r, 0, 0, 6, greatest-1, greatest-5, -2)
	mustAdvance(t, r, 0, 0)
	mustView(t, r, 0, out(0, 2, 0, 1), in(1, 0, 0, 8), in(1, 1, 0, 4))
	mustDo(t, r, 11, work(0, 1, 11, 1, 0, -2))
	mustView(t, r, 0, out(0, 2, 0, 1), in(1, 0, 0, 8), in(1, 1, 0, 3), out(1, 1, 0, 1))
	workAtAll(t, r, 1)
	// The times are wanted once, however many values came.
	mustView(t, r, 0, out(0, 2, 0, 1), out(1, 0, 0, 1), out(1, 1, 0, 1))
	mustAct(t, r, 2)
	mustDo(t, r, 1, notify(0, 1, 1, 0))
	// 6 - 2 + (2^63 - 2) + (2^63 - 6) is -4.
	mustWait(t, r, 0, 2, message(1, 0, -4))
	mustView(t, r, 0, out(0, 2, 0, 1), out(1, 0, 0, 1), in(2, 1, 0, 1))
	mustDo(t, r, 1, notify(0, 1, 0, 0))
	// By groups: 8 - 8; 5 + 1 - 3; of 2 none; -1 + 3 + (2^63 - 1), which wraps.
	mustWait(t, r, 0, 2, message(1, 0, -4), message(0, 0, 0), message(0, 0, 3), message(0, 0, least+1))
	mustView(t, r, 0, out(0, 2, 0, 1), in(2, 0, 0, 3), in(2, 1, 0, 1))
	// The sums are forgotten: a later time begins with none.
	mustGive(t, r, 0, 0, 4)
	mustDo(t, r, 0, work(0, 1, 0, 2, 0, 4))
	mustClose(t, r, 0, 0)
	mustDo(t, r, 4, notify(0, 1, 2, 0))
	mustWait(t, r, 0, 2, message(1, 0, -4), message(0, 0, 0), message(0, 0, 3), message(0, 0, least+1), message(2, 0, 4))
}

// TestWantedAgain: a time that is wanted on two workers is two points, on one worker one.
func TestWantedAgain(t *testing.T) {
	r := mustBegin(t, graphOf(1, src(), sum(0, 2), sum(0, 1)), 2)
	mustGive(t, r, 0, 0, 2, 4, 3)
	mustDo(t, r, 0, work(0, 1, 0, 0, 0, 2))
	mustView(t, r, 0, out(0, 0, 0, 2), in(1, 0, 0, 2), out(1, 0, 0, 1), in(2, 0, 0, 3))
	mustDo(t, r, 0, work(0, 1, 0, 0, 0, 4))
	mustView(t, r, 0, out(0, 0, 0, 2), in(1, 0, 0, 1), out(1, 0, 0, 1), in(2, 0, 0, 3))
	mustDo(t, r, 3, work(1, 1, 0, 0, 0, 3))
	mustView(t, r, 1, out(0, 0, 0, 2), in(1, 0, 0, -1), out(1, 0, 0, 1))
	mustDo(t, r, 3, tell(0, 1))
	mustView(t, r, 0, out(0, 0, 0, 2), out(1, 0, 0, 2), in(2, 0, 0, 3))
	for told := 0; told < 5; told++ {
		mustDo(t, r, 3, tell(1, 0))
	}
	mustView(t, r, 1, out(0, 0, 0, 2), out(1, 0, 0, 2), in(2, 0, 0, 3))
	mustAct(t, r, 3)
}

// TestSumOnACycle: a Sum that takes, over a Back, from itself wants one round after the other.
func TestSumOnACycle(t *testing.T) {
	r := mustBegin(t, graphOf(3, src(), merge(0, 3), sum(1, 2), back(2), sink(2)), 1)
	mustGive(t, r, 0, 0, 1, 2, 5)
	mustClose(t, r, 0, 0)
	workAtAll(t, r, 1)
	workAtAll(t, r, 2)
	mustAct(t, r, 1)
	mustDo(t, r, 0, notify(0, 2, 0, 0))
	mustWait(t, r, 0, 3, message(0, 0, 2), message(0, 0, 6))
	workAtAll(t, r, 3)
	workAtAll(t, r, 1)
	mustDo(t, r, 0, work(0, 2, 0, 0, 1, 2))
	// The 6 waits, so (0, 1) can come still.
	mustCome(t, r, 0, 2, when(0, 1))
	mustAct(t, r, 3)
	mustDo(t, r, 0, work(0, 2, 0, 0, 1, 6))
	mustCome(t, r, 0, 2, when(0, 2))
	mustAct(t, r, 3)
	mustDo(t, r, 2, notify(0, 2, 0, 1))
	mustWait(t, r, 0, 4, message(0, 0, 2), message(0, 0, 6), message(0, 1, 8))
	workAtAll(t, r, 3)
	workAtAll(t, r, 1)
	workAtAll(t, r, 2)
	// In the last round nothing can come to it any more.
	mustCome(t, r, 0, 2)
	mustDo(t, r, 3, notify(0, 2, 0, 2))
	workAtAll(t, r, 3)
	workAtAll(t, r, 4)
	mustView(t, r, 0)
	mustAct(t, r, 0)
	mustComeOut(t, r, record(4, 0, 0, 0, 2), record(4, 0, 0, 0, 6), record(4, 0, 0, 1, 8), record(4, 0, 0, 2, 8))
}

// TestLastTime: all nodes in the last epoch, up to the last round.
func TestLastTime(t *testing.T) {
	r := mustBegin(t, graphOf(api.MaxRounds, src(), merge(0, 3), once(1), back(2), sum(2, 3), sum(1, 1), sink(4), sink(5)), 1)
	for epoch := 0; epoch < api.MaxEpoch; epoch++ {
		mustAdvance(t, r, 0, 0)
	}
	mustGive(t, r, 0, 0, 2, 3, 2)
	for round := 0; round < api.MaxRounds; round++ {
		for n := 1; n <= 5; n++ {
			workAtAll(t, r, n)
		}
	}
	wanted := []api.Event{
		notify(0, 4, 5, 0), notify(0, 4, 5, 1), notify(0, 4, 5, 2), notify(0, 4, 5, 3),
		notify(0, 5, 5, 0), notify(0, 5, 5, 1), notify(0, 5, 5, 2), notify(0, 5, 5, 3),
	}
	points := []api.Point{out(0, 5, 0, 1)}
	for _, e := range wanted {
		points = append(points, out(e.Node, e.Epoch, e.Round, 1))
	}
	mustView(t, r, 0, points...)
	mustAct(t, r, 0)
	mustClose(t, r, 0, 0)
	mustAct(t, r, len(wanted))
	// The last ones first, so that the messages that they put out are ahead of those that are left.
	for left := len(wanted) - 1; left >= 0; left-- {
		mustDo(t, r, r.Actions()-1, wanted[left])
	}
	mustWait(t, r, 0, 6, message(5, 3, 3), message(5, 3, 2), message(5, 2, 3), message(5, 2, 2), message(5, 1, 3), message(5, 1, 2), message(5, 0, 3), message(5, 0, 2))
	mustWait(t, r, 0, 7, message(5, 3, 5), message(5, 2, 5), message(5, 1, 5), message(5, 0, 7))
}

// TestNotifyPutsOut: one sum after the other, each to all that take from the Sum, by the worker that is notified.
func TestNotifyPutsOut(t *testing.T) {
	b := beginTwin(t, graphOf(1, once(2), src(), sum(1, 8), sum(2, 3), sink(2)), 4)
	b.give(1, 1, 13, 1, 9)
	b.closeAll()
	// The groups 5 and 1 are the worker 1's.
	b.must(work(1, 2, 1, 0, 0, 1), work(1, 2, 1, 0, 0, 9), work(1, 2, 0, 0, 0, 13), tell(1, 0), tell(1, 2), tell(1, 3), notify(1, 2, 0, 0))
	mustWait(t, b.r, 2, 0, messages(0, 10)...)
	mustWait(t, b.r, 1, 0, messages(0, 13)...)
	// 10 and 13 are of the group 1 of 3.
	mustWait(t, b.r, 1, 3, messages(0, 10, 13)...)
	mustWait(t, b.r, 1, 4, messages(0, 10, 13)...)
	mustView(t, b.r, 1, in(0, 0, 0, 2), in(3, 0, 0, 2), in(4, 0, 0, 2))
}

// TestTellInOrder: the earliest change of the one worker first, whatever of the other is told between.
func TestTellInOrder(t *testing.T) {
	r := mustBegin(t, graphOf(1, src(), src()), 3)
	for epoch := 0; epoch < 2; epoch++ {
		mustAdvance(t, r, 1, 0)
		mustAdvance(t, r, 0, 1)
	}
	mustDo(t, r, 3, tell(2, 1))
	mustView(t, r, 2, out(0, 0, 0, 2), out(0, 1, 0, 1), out(1, 0, 0, 3))
	mustDo(t, r, 2, tell(2, 0))
	mustView(t, r, 2, out(0, 0, 0, 2), out(0, 1, 0, 1), out(1, 0, 0, 2), out(1, 1, 0, 1))
	mustDo(t, r, 2, tell(2, 0))
	mustView(t, r, 2, out(0, 0, 0, 2), out(0, 1, 0, 1), out(1, 0, 0, 2), out(1, 2, 0, 1))
	mustAct(t, r, 3)
	mustClose(t, r, 1, 0)
	mustDo(t, r, 2, tell(2, 1))
	mustView(t, r, 2, out(0, 0, 0, 2), out(0, 2, 0, 1), out(1, 0, 0, 2), out(1, 2, 0, 1))
	mustDo(t, r, 2, tell(2, 1))
	mustView(t, r, 2, out(0, 0, 0, 2), out(1, 0, 0, 2), out(1, 2, 0, 1))
	mustAct(t, r, 2)
	// The others were told nothing of it.
	mustView(t, r, 0, out(0, 0, 0, 3), out(1, 0, 0, 2), out(1, 2, 0, 1))
}

// TestTellMakesNoChange: what is told is not told on, and a change of no points is told like any other.
func TestTellMakesNoChange(t *testing.T) {
	r := mustBegin(t, graphOf(1, src()), 4)
	mustGive(t, r, 3, 0, 7)
	mustAct(t, r, 3)
	for w := 0; w < 3; w++ {
		mustDo(t, r, 0, tell(w, 3))
		mustView(t, r, w, out(0, 0, 0, 4))
		mustAct(t, r, 2-w)
	}
}

// TestWorkOfNothingIsAChange: a WORK that puts out nothing, one at a Sink, and a NOTIFY from which none takes are told too.
func TestWorkOfNothingIsAChange(t *testing.T) {
	r := mustBegin(t, graphOf(1, src(), pass(0, 2, 0), back(0), sink(0), sum(0, 1)), 2)
	mustClose(t, r, 1, 0)
	mustGive(t, r, 0, 0, 1)
	mustClose(t, r, 0, 0)
	for n := 1; n <= 4; n++ {
		mustDo(t, r, 0, work(0, n, 0, 0, 0, 1))
	}
	mustDo(t, r, 0, tell(0, 1))
	mustDo(t, r, 0, notify(0, 4, 0, 0))
	mustView(t, r, 0)
	left := []api.Point{out(0, 0, 0, 1), in(1, 0, 0, 1), in(2, 0, 0, 1), in(3, 0, 0, 1), in(4, 0, 0, 1)}
	mustDo(t, r, 0, tell(1, 0))
	mustView(t, r, 1, left...)
	for i := 1; i < len(left); i++ {
		mustDo(t, r, 0, tell(1, 0))
		mustView(t, r, 1, left[i:]...)
	}
	mustDo(t, r, 0, tell(1, 0))
	mustView(t, r, 1, out(4, 0, 0, 1))
	mustDo(t, r, 0, tell(1, 0))
	mustView(t, r, 1)
	mustAct(t, r, 0)
}

// TestCountBelowNone: a change is told ahead of an earlier one of another worker.
func TestCountBelowNone(t *testing.T) {
	b := beginTwin(t, graphOf(2, src(), once(0), back(1), sink(2)), 3)
	b.give(0, 0, 1, 4)
	b.closeAll()
	b.must(work(1, 1, 1, 0, 0, 4), work(1, 1, 0, 0, 0, 1), work(1, 2, 0, 0, 0, 4))
	// Of the worker 1: that it closed its Source, and its work.
	b.must(tell(2, 1), tell(2, 1))
	mustView(t, b.r, 2, out(0, 0, 0, 1), in(1, 0, 0, -1), in(2, 0, 0, 1))
	b.must(tell(2, 1))
	mustView(t, b.r, 2, out(0, 0, 0, 1), in(1, 0, 0, -2), in(2, 0, 0, 2))
	b.must(tell(2, 1))
	mustView(t, b.r, 2, out(0, 0, 0, 1), in(1, 0, 0, -2), in(2, 0, 0, 1), in(3, 0, 1, 1))
	mustCome(t, b.r, 2, 1, when(0, 0))
	b.must(tell(2, 0))
	mustView(t, b.r, 2, out(0, 0, 0, 1), in(1, 0, 0, -1), in(2, 0, 0, 1), in(3, 0, 1, 1))
	b.must(tell(2, 0))
	mustView(t, b.r, 2, out(0, 0, 0, 1), in(2, 0, 0, 1), in(3, 0, 1, 1))
	b.must(tell(2, 0))
	mustView(t, b.r, 2, in(2, 0, 0, 1), in(3, 0, 1, 1))
	mustCome(t, b.r, 2, 1)
	mustCome(t, b.r, 2, 3, when(0, 1))
	// The worker 1 itself was told nothing: of it, too, there are fewer than none.
	mustView(t, b.r, 1, out(0, 0, 0, 2), in(1, 0, 0, -2), in(2, 0, 0, 1), in(3, 0, 1, 1))
	mustCome(t, b.r, 1, 3, when(0, 1))
}

// TestFewerThanNoneLetNothingCome: only a count above 0 lets a time come.
func TestFewerThanNoneLetNothingCome(t *testing.T) {
	b := beginTwin(t, graphOf(1, src(), once(0), sum(1, 1), src(), once(3)), 2)
	b.give(0, 0, 1)
	b.advance(0, 0)
	b.close(1, 0)
	b.close(1, 3)
	b.must(work(1, 1, 0, 0, 0, 1))
	mustView(t, b.r, 1, out(0, 0, 0, 1), in(1, 0, 0, -1), in(2, 0, 0, 1), out(3, 0, 0, 1))
	b.must(work(0, 2, 0, 0, 0, 1), tell(1, 0), tell(1, 0))
	mustView(t, b.r, 1, out(0, 1, 0, 1), in(2, 0, 0, 1), out(3, 0, 0, 1))
	b.must(tell(1, 0))
	mustView(t, b.r, 1, out(0, 1, 0, 1), out(2, 0, 0, 1), out(3, 0, 0, 1))
	mustCome(t, b.r, 1, 2, when(1, 0))
	// The worker 0 knows of its own work alone.
	mustView(t, b.r, 0, out(0, 0, 0, 1), out(0, 1, 0, 1), in(1, 0, 0, 1), in(2, 0, 0, -1), out(2, 0, 0, 1), out(3, 0, 0, 2))
	b.must(tell(0, 1), tell(0, 1))
	mustView(t, b.r, 0, out(0, 1, 0, 1), in(1, 0, 0, 1), in(2, 0, 0, -1), out(2, 0, 0, 1), out(3, 0, 0, 1))
	mustCome(t, b.r, 0, 2, when(0, 0))
	b.must(tell(0, 1))
	mustView(t, b.r, 0, out(0, 1, 0, 1), out(2, 0, 0, 1), out(3, 0, 0, 1))
	mustCome(t, b.r, 0, 2, when(1, 0))
	b.must(notify(0, 2, 0, 0))
}

// TestOut: in the order in which they came, whatever their nodes, workers, times and values.
func TestOut(t *testing.T) {
	b := beginTwin(t, graphOf(2, src(), sink(0), sink(3), back(0), sink(0)), 2)
	b.give(1, 0, 3)
	b.advance(0, 0)
	b.give(0, 0, -2, 5)
	mustComeOut(t, b.r)
	b.must(work(1, 4, 0, 0, 0, 3))
	mustComeOut(t, b.r, record(4, 1, 0, 0, 3))
	b.must(work(0, 1, 1, 1, 0, 5), work(0, 3, 0, 1, 0, -2), work(0, 2, 0, 1, 1, -2), work(1, 1, 0, 0, 0, 3), work(0, 1, 0, 1, 0, -2))
	want := []api.Record{record(4, 1, 0, 0, 3), record(1, 0, 1, 0, 5), record(2, 0, 1, 1, -2), record(1, 1, 0, 0, 3), record(1, 0, 1, 0, -2)}
	mustComeOut(t, b.r, want...)
	b.must(tell(1, 0), tell(0, 1))
	mustComeOut(t, b.r, want...)
}

// TestOutIsTheCallers writes over the lists that came out, between records that come.
func TestOutIsTheCallers(t *testing.T) {
	r := mustBegin(t, graphOf(1, src(), sink(0)), 1)
	var want []api.Record
	var kept [][]api.Record
	for i := 0; i < api.MaxGiven; i++ {
		mustGive(t, r, 0, 0, i)
		mustDo(t, r, 0, work(0, 1, 0, 0, 0, i))
		want = append(want, record(1, 0, 0, 0, i))
		kept = append(kept, r.Out())
		overwrite(r.Out(), record(-77, -77, -77, -77, -77))
		mustComeOut(t, r, want...)
	}
	for i, list := range kept {
		if !slices.Equal(list, want[:i+1]) {
			t.Errorf("P2: Out() became %+v, was %+v", list, want[:i+1])
		}
	}
}
