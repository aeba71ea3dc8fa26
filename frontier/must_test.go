package frontier_test

import (
	"slices"
	"testing"

	"frontier/api"
	"frontier/frontier"
)

// mustBeAs tests all that can be seen of a run against the model.
func mustBeAs(t *testing.T, r *frontier.Run, m *model) {
	t.Helper()
	mustAct(t, r, len(m.actions()))
	mustComeOut(t, r, m.records...)
	for w := 0; w < m.workers; w++ {
		mustView(t, r, w, m.view(w)...)
		for n := range m.g.Nodes {
			mustWait(t, r, w, n, m.waiting[place{w, n}]...)
			mustCome(t, r, w, n, m.frontier(w, n)...)
		}
	}
}

func mustBegin(t *testing.T, g api.Graph, workers int) *frontier.Run {
	t.Helper()
	r, errno := frontier.New(g, workers)
	if r == nil || errno != api.OK {
		t.Fatalf("P6: New(%+v, %d) = %v, %d", g, workers, r != nil, errno)
	}
	return r
}

func mustNotBegin(t *testing.T, g api.Graph, workers int, want api.Errno) {
	t.Helper()
	r, errno := frontier.New(g, workers)
	if r != nil || errno != want {
		t.Errorf("P6: New(%+v, %d) = %v, %d, want nil, %d", g, workers, r, errno, want)
	}
}

func mustGive(t *testing.T, r *frontier.Run, w, n int, values ...int) {
	t.Helper()
	for _, v := range values {
		mustAnswer(t, r.Give(w, n, v), api.OK)
	}
}

func mustAdvance(t *testing.T, r *frontier.Run, w, n int) {
	t.Helper()
	mustAnswer(t, r.Advance(w, n), api.OK)
}

func mustClose(t *testing.T, r *frontier.Run, w, n int) {
	t.Helper()
	mustAnswer(t, r.Close(w, n), api.OK)
}

func mustAnswer(t *testing.T, errno, want api.Errno) {
	t.Helper()
	if errno != want {
		t.Errorf("P7: the answer is %d, want %d", errno, want)
	}
}

func mustWait(t *testing.T, r *frontier.Run, w, n int, want ...api.Message) {
	t.Helper()
	list, errno := r.Waiting(w, n)
	if errno != api.OK || !slices.Equal(list, want) {
		t.Errorf("P8: Waiting(%d, %d) = %+v, %d, want %+v", w, n, list, errno, want)
	}
}

func mustView(t *testing.T, r *frontier.Run, w int, want ...api.Point) {
	t.Helper()
	list, errno := r.View(w)
	if errno != api.OK || !slices.Equal(list, want) {
		t.Errorf("P9: View(%d) = %+v, %d, want %+v", w, list, errno, want)
	}
}

func mustCome(t *testing.T, r *frontier.Run, w, n int, want ...api.Time) {
	t.Helper()
	list, errno := r.Frontier(w, n)
	if errno != api.OK || !slices.Equal(list, want) {
		t.Errorf("P9: Frontier(%d, %d) = %+v, %d, want %+v", w, n, list, errno, want)
	}
}

func mustAct(t *testing.T, r *frontier.Run, want int) {
	t.Helper()
	if count := r.Actions(); count != want {
		t.Errorf("P10: Actions() = %d, want %d", count, want)
	}
}

func mustDo(t *testing.T, r *frontier.Run, k int, want api.Event) {
	t.Helper()
	event, errno := r.Do(k)
	if event != want || errno != api.OK {
		t.Fatalf("P11: Do(%d) = %+v, %d, want %+v, OK", k, event, errno, want)
	}
}

func mustNotDo(t *testing.T, r *frontier.Run, k int) {
	t.Helper()
	event, errno := r.Do(k)
	if event != (api.Event{}) || errno != api.ErrArg {
		t.Fatalf("P11: Do(%d) = %+v, %d, want the empty Event, ErrArg", k, event, errno)
	}
}

func mustComeOut(t *testing.T, r *frontier.Run, want ...api.Record) {
	t.Helper()
	if list := r.Out(); !slices.Equal(list, want) {
		t.Errorf("P12: Out() = %+v, want %+v", list, want)
	}
}

func work(w, n, i, epoch, round, v int) api.Event {
	return api.Event{Kind: api.Work, Worker: w, Node: n, Index: i, Epoch: epoch, Round: round, Value: v}
}

func notify(w, n, epoch, round int) api.Event {
	return api.Event{Kind: api.Notify, Worker: w, Node: n, Epoch: epoch, Round: round}
}

func tell(w, x int) api.Event { return api.Event{Kind: api.Tell, Worker: w, Index: x} }

// messages are the values, as they wait, of an epoch and round 0.
func messages(epoch int, values ...int) []api.Message {
	var all []api.Message
	for _, v := range values {
		all = append(all, api.Message{Epoch: epoch, Value: v})
	}
	return all
}

func message(epoch, round, v int) api.Message {
	return api.Message{Epoch: epoch, Round: round, Value: v}
}

func record(n, w, epoch, round, v int) api.Record {
	return api.Record{Node: n, Worker: w, Epoch: epoch, Round: round, Value: v}
}

func in(n, epoch, round, count int) api.Point {
	return api.Point{Node: n, Epoch: epoch, Round: round, Count: count}
}

func out(n, epoch, round, count int) api.Point {
	return api.Point{Node: n, Out: true, Epoch: epoch, Round: round, Count: count}
}

func when(epoch, round int) api.Time { return api.Time{Epoch: epoch, Round: round} }
