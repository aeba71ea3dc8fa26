package frontier_test

import (
	"slices"
	"sort"
	"testing"

	"frontier/api"
	"frontier/frontier"
)

// model is a run as the document tells it, kept as plainly as can be.
type model struct {
	g        api.Graph
	workers  int
	given    int
	epochs   map[place]int
	closed   map[place]bool
	waiting  map[place][]api.Message
	believed []map[api.Point]int
}

// place is a node of a worker.
type place struct{ w, n int }

func modelOf(g api.Graph, workers int) *model {
	m := &model{g: g, workers: workers, epochs: map[place]int{}, closed: map[place]bool{}, waiting: map[place][]api.Message{}}
	for w := 0; w < workers; w++ {
		believed := map[api.Point]int{}
		for n, node := range g.Nodes {
			if node.Kind == api.Source {
				believed[api.Point{Node: n, Out: true}] = workers
			}
		}
		m.believed = append(m.believed, believed)
	}
	return m
}

func (m *model) sourceErrno(w, n int) api.Errno {
	if w < 0 || w >= m.workers || n < 0 || n >= len(m.g.Nodes) || m.g.Nodes[n].Kind != api.Source {
		return api.ErrArg
	}
	if m.closed[place{w, n}] {
		return api.ErrClosed
	}
	return api.OK
}

func (m *model) give(w, n, v int) api.Errno {
	if e := m.sourceErrno(w, n); e != api.OK {
		return e
	}
	if m.given == 20 {
		return api.ErrRoom
	}
	m.given++
	epoch := m.epochs[place{w, n}]
	for x, node := range m.g.Nodes {
		if !takes(node, n) {
			continue
		}
		to := w
		if node.Kind == api.Once {
			to = wantedRest(v, m.workers)
		}
		if node.Kind == api.Sum {
			to = wantedRest(v, node.K) % m.workers
		}
		m.waiting[place{to, x}] = append(m.waiting[place{to, x}], api.Message{Epoch: epoch, Value: v})
		m.believed[w][api.Point{Node: x, Epoch: epoch}]++
	}
	return api.OK
}

func (m *model) advance(w, n int) api.Errno {
	if e := m.sourceErrno(w, n); e != api.OK {
		return e
	}
	epoch := m.epochs[place{w, n}]
	if epoch == 5 {
		return api.ErrRoom
	}
	m.epochs[place{w, n}] = epoch + 1
	m.believed[w][api.Point{Node: n, Out: true, Epoch: epoch}]--
	m.believed[w][api.Point{Node: n, Out: true, Epoch: epoch + 1}]++
	return api.OK
}

func (m *model) close(w, n int) api.Errno {
	if e := m.sourceErrno(w, n); e != api.OK {
		return e
	}
	m.closed[place{w, n}] = true
	m.believed[w][api.Point{Node: n, Out: true, Epoch: m.epochs[place{w, n}]}]--
	return api.OK
}

func (m *model) view(w int) []api.Point {
	var all []api.Point
	for p, count := range m.believed[w] {
		if count != 0 {
			p.Count = count
			all = append(all, p)
		}
	}
	sort.Slice(all, func(i, j int) bool { return placeInOrder(all[i]) < placeInOrder(all[j]) })
	return all
}

func placeInOrder(p api.Point) int {
	out := 0
	if p.Out {
		out = 1
	}
	return ((p.Node*2+out)*6+p.Epoch)*4 + p.Round
}

// canStillCome follows the words of P9, one time after the other.
func (m *model) canStillCome(w, x, e, s int) bool {
	for p, count := range m.believed[w] {
		if count <= 0 || p.Epoch != e {
			continue
		}
		if !p.Out && p.Node == x && p.Round == s {
			return true
		}
		distance := wantedDistance(m.g, p.Node, x, [api.MaxNodes]bool{})
		if distance == api.NoWay {
			continue
		}
		if !p.Out && m.g.Nodes[p.Node].Kind == api.Back {
			distance++
		}
		if p.Round+distance == s {
			return true
		}
	}
	return false
}

func (m *model) frontier(w, x int) []api.Time {
	var can []api.Time
	for e := 0; e <= 5; e++ {
		for s := 0; s < m.g.Rounds; s++ {
			if m.canStillCome(w, x, e, s) {
				can = append(can, api.Time{Epoch: e, Round: s})
			}
		}
	}
	var all []api.Time
	for _, time := range can {
		if !hasOtherUpTo(can, time) {
			all = append(all, time)
		}
	}
	return all
}

func hasOtherUpTo(list []api.Time, time api.Time) bool {
	for _, other := range list {
		if other != time && other.Epoch <= time.Epoch && other.Round <= time.Round {
			return true
		}
	}
	return false
}

// mustBeAs tests all that can be seen of a run against the model.
func mustBeAs(t *testing.T, r *frontier.Run, m *model) {
	t.Helper()
	for w := 0; w < m.workers; w++ {
		mustView(t, r, w, m.view(w)...)
		for n := range m.g.Nodes {
			mustWait(t, r, w, n, m.waiting[place{w, n}]...)
			mustCome(t, r, w, n, m.frontier(w, n)...)
		}
	}
}

func mustBegin(t *testing.T, g api.Graph, workers int) *frontier.Run {
	t.Helper()
	r, errno := frontier.New(g, workers)
	if r == nil || errno != api.OK {
		t.Fatalf("P6: New(%+v, %d) = %v, %d", g, workers, r != nil, errno)
	}
	return r
}

func mustNotBegin(t *testing.T, g api.Graph, workers int, want api.Errno) {
	t.Helper()
	r, errno := frontier.New(g, workers)
	if r != nil || errno != want {
		t.Errorf("P6: New(%+v, %d) = %v, %d, want nil, %d", g, workers, r, errno, want)
	}
}

func mustGive(t *testing.T, r *frontier.Run, w, n int, values ...int) {
	t.Helper()
	for _, v := range values {
		mustAnswer(t, r.Give(w, n, v), api.OK)
	}
}

func mustAdvance(t *testing.T, r *frontier.Run, w, n int) {
	t.Helper()
	mustAnswer(t, r.Advance(w, n), api.OK)
}

func mustClose(t *testing.T, r *frontier.Run, w, n int) {
	t.Helper()
	mustAnswer(t, r.Close(w, n), api.OK)
}

func mustAnswer(t *testing.T, errno, want api.Errno) {
	t.Helper()
	if errno != want {
		t.Errorf("P7: the answer is %d, want %d", errno, want)
	}
}

func mustWait(t *testing.T, r *frontier.Run, w, n int, want ...api.Message) {
	t.Helper()
	list, errno := r.Waiting(w, n)
	if errno != api.OK || !slices.Equal(list, want) {
		t.Errorf("P8: Waiting(%d, %d) = %+v, %d, want %+v", w, n, list, errno, want)
	}
}

func mustView(t *testing.T, r *frontier.Run, w int, want ...api.Point) {
	t.Helper()
	list, errno := r.View(w)
	if errno != api.OK || !slices.Equal(list, want) {
		t.Errorf("P9: View(%d) = %+v, %d, want %+v", w, list, errno, want)
	}
}

func mustCome(t *testing.T, r *frontier.Run, w, n int, want ...api.Time) {
	t.Helper()
	list, errno := r.Frontier(w, n)
	if errno != api.OK || !slices.Equal(list, want) {
		t.Errorf("P9: Frontier(%d, %d) = %+v, %d, want %+v", w, n, list, errno, want)
	}
}

// messages are the values, as they wait, of an epoch and round 0.
func messages(epoch int, values ...int) []api.Message {
	var all []api.Message
	for _, v := range values {
		all = append(all, api.Message{Epoch: epoch, Value: v})
	}
	return all
}

func in(n, epoch, round, count int) api.Point {
	return api.Point{Node: n, Epoch: epoch, Round: round, Count: count}
}

func out(n, epoch, round, count int) api.Point {
	return api.Point{Node: n, Out: true, Epoch: epoch, Round: round, Count: count}
}

func when(epoch, round int) api.Time { return api.Time{Epoch: epoch, Round: round} }
