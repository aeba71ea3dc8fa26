package frontier_test

import (
	"slices"
	"sort"

	"frontier/api"
)

// model is a run as the document tells it, kept as plainly as can be.
type model struct {
	g         api.Graph
	distances [api.MaxNodes][api.MaxNodes]int
	workers   int
	given     []api.Given
	epochs    map[place]int
	closed    map[place]bool
	waiting   map[place][]api.Message
	met       map[place]map[api.Message]bool
	wanted    map[place]map[api.Time]map[int]int
	believed  []map[api.Point]int
	onTheWay  map[way][][]api.Point
	records   []api.Record
}

// place is a node of a worker.
type place struct{ w, n int }

// way is a way of changes, from one worker to another.
type way struct{ from, to int }

func modelOf(g api.Graph, workers int) *model {
	m := &model{
		g: g, workers: workers, epochs: map[place]int{}, closed: map[place]bool{}, waiting: map[place][]api.Message{},
		met: map[place]map[api.Message]bool{}, wanted: map[place]map[api.Time]map[int]int{}, onTheWay: map[way][][]api.Point{},
	}
	for n := range g.Nodes {
		for x := range g.Nodes {
			m.distances[n][x] = wantedDistance(g, n, x, [api.MaxNodes]bool{})
		}
	}
	for w := 0; w < workers; w++ {
		believed := map[api.Point]int{}
		for n, node := range g.Nodes {
			if node.Kind == api.Source {
				believed[api.Point{Node: n, Out: true}] = workers
			}
			m.met[place{w, n}] = map[api.Message]bool{}
			m.wanted[place{w, n}] = map[api.Time]map[int]int{}
		}
		m.believed = append(m.believed, believed)
	}
	return m
}

// putOut answers the points at which there is one more.
func (m *model) putOut(w, n int, time api.Time, v int) []api.Point {
	var all []api.Point
	for x, node := range m.g.Nodes {
		if !takes(node, n) {
			continue
		}
		to := w
		if node.Kind == api.Once {
			to = wantedRest(v, m.workers)
		}
		if node.Kind == api.Sum {
			to = wantedRest(v, node.K) % m.workers
		}
		m.waiting[place{to, x}] = append(m.waiting[place{to, x}], api.Message{Epoch: time.Epoch, Round: time.Round, Value: v})
		all = append(all, in(x, time.Epoch, time.Round, 1))
	}
	return all
}

// change is believed by w, and on its way to the others.
func (m *model) change(w int, list ...api.Point) {
	m.believe(w, list)
	for x := 0; x < m.workers; x++ {
		if x != w {
			m.onTheWay[way{w, x}] = append(m.onTheWay[way{w, x}], list)
		}
	}
}

func (m *model) believe(w int, list []api.Point) {
	for _, p := range list {
		count := p.Count
		p.Count = 0
		m.believed[w][p] += count
		if m.believed[w][p] == 0 {
			delete(m.believed[w], p)
		}
	}
}

func (m *model) sourceErrno(w, n int) api.Errno {
	if w < 0 || w >= m.workers || n < 0 || n >= len(m.g.Nodes) || m.g.Nodes[n].Kind != api.Source {
		return api.ErrArg
	}
	if m.closed[place{w, n}] {
		return api.ErrClosed
	}
	return api.OK
}

func (m *model) give(w, n, v int) api.Errno {
	if e := m.sourceErrno(w, n); e != api.OK {
		return e
	}
	if len(m.given) == 20 {
		return api.ErrRoom
	}
	epoch := m.epochs[place{w, n}]
	m.given = append(m.given, api.Given{Node: n, Epoch: epoch, Value: v})
	m.change(w, m.putOut(w, n, when(epoch, 0), v)...)
	return api.OK
}

func (m *model) advance(w, n int) api.Errno {
	if e := m.sourceErrno(w, n); e != api.OK {
		return e
	}
	epoch := m.epochs[place{w, n}]
	if epoch == 5 {
		return api.ErrRoom
	}
	m.epochs[place{w, n}] = epoch + 1
	m.change(w, out(n, epoch, 0, -1), out(n, epoch+1, 0, 1))
	return api.OK
}

func (m *model) close(w, n int) api.Errno {
	if e := m.sourceErrno(w, n); e != api.OK {
		return e
	}
	m.closed[place{w, n}] = true
	m.change(w, out(n, m.epochs[place{w, n}], 0, -1))
	return api.OK
}

// actions are the actions that there are, in order, each as the Event of doing it.
func (m *model) actions() []api.Event {
	var all []api.Event
	for w := 0; w < m.workers; w++ {
		for n := range m.g.Nodes {
			for i, message := range m.waiting[place{w, n}] {
				all = append(all, work(w, n, i, message.Epoch, message.Round, message.Value))
			}
		}
		for n := range m.g.Nodes {
			all = append(all, m.notifies(w, n)...)
		}
		for x := 0; x < m.workers; x++ {
			if len(m.onTheWay[way{x, w}]) > 0 {
				all = append(all, tell(w, x))
			}
		}
	}
	return all
}

func (m *model) notifies(w, n int) []api.Event {
	var all []api.Event
	if len(m.wanted[place{w, n}]) == 0 {
		return nil
	}
	frontier := m.frontier(w, n)
	for e := 0; e <= 5; e++ {
		for s := 0; s < 4; s++ {
			time := when(e, s)
			if m.wanted[place{w, n}][time] != nil && !letsCome(frontier, time) {
				all = append(all, notify(w, n, e, s))
			}
		}
	}
	return all
}

// letsCome tells whether a time is let come by a Frontier.
func letsCome(frontier []api.Time, time api.Time) bool {
	for _, least := range frontier {
		if isUpTo(least, time) {
			return true
		}
	}
	return false
}

func isUpTo(a, b api.Time) bool { return a.Epoch <= b.Epoch && a.Round <= b.Round }

func (m *model) do(k int) (api.Event, api.Errno) {
	all := m.actions()
	if k < 0 || k >= len(all) {
		return api.Event{}, api.ErrArg
	}
	e := all[k]
	time := when(e.Epoch, e.Round)
	switch e.Kind {
	case api.Work:
		at := place{e.Worker, e.Node}
		m.waiting[at] = slices.Delete(slices.Clone(m.waiting[at]), e.Index, e.Index+1)
		list := []api.Point{in(e.Node, e.Epoch, e.Round, -1)}
		m.change(e.Worker, append(list, m.work(e.Worker, e.Node, time, e.Value)...)...)
	case api.Notify:
		list := []api.Point{out(e.Node, e.Epoch, e.Round, -1)}
		groups := m.wanted[place{e.Worker, e.Node}][time]
		delete(m.wanted[place{e.Worker, e.Node}], time)
		for group := 0; group < 8; group++ {
			if sum, met := groups[group]; met {
				list = append(list, m.putOut(e.Worker, e.Node, time, sum)...)
			}
		}
		m.change(e.Worker, list...)
	case api.Tell:
		from := way{e.Index, e.Worker}
		m.believe(e.Worker, m.onTheWay[from][0])
		m.onTheWay[from] = m.onTheWay[from][1:]
	}
	return e, api.OK
}

// work answers what the node does to points.
func (m *model) work(w, n int, time api.Time, v int) []api.Point {
	node := m.g.Nodes[n]
	at := place{w, n}
	switch node.Kind {
	case api.Add:
		return m.putOut(w, n, time, v+node.K)
	case api.Pass:
		if wantedRest(v, node.K) != node.M {
			return nil
		}
	case api.Back:
		time.Round++
		if time.Round == m.g.Rounds {
			return nil
		}
	case api.Once:
		message := api.Message{Epoch: time.Epoch, Round: time.Round, Value: v}
		if m.met[at][message] {
			return nil
		}
		m.met[at][message] = true
	case api.Sum:
		var more []api.Point
		if m.wanted[at][time] == nil {
			m.wanted[at][time] = map[int]int{}
			more = append(more, out(n, time.Epoch, time.Round, 1))
		}
		m.wanted[at][time][wantedRest(v, node.K)] += v
		return more
	case api.Sink:
		m.records = append(m.records, api.Record{Node: n, Worker: w, Epoch: time.Epoch, Round: time.Round, Value: v})
		return nil
	}
	return m.putOut(w, n, time, v)
}

func (m *model) view(w int) []api.Point {
	var all []api.Point
	for p, count := range m.believed[w] {
		if count != 0 {
			p.Count = count
			all = append(all, p)
		}
	}
	sort.Slice(all, func(i, j int) bool { return placeInOrder(all[i]) < placeInOrder(all[j]) })
	return all
}

func placeInOrder(p api.Point) int {
	out := 0
	if p.Out {
		out = 1
	}
	return ((p.Node*2+out)*6+p.Epoch)*4 + p.Round
}

// canStillCome follows the words of P9, one time after the other.
func (m *model) canStillCome(w, x, e, s int) bool {
	for p, count := range m.believed[w] {
		if count <= 0 || p.Epoch != e {
			continue
		}
		if !p.Out && p.Node == x && p.Round == s {
			return true
		}
		distance := m.distances[p.Node][x]
		if distance == api.NoWay {
			continue
		}
		if !p.Out && m.g.Nodes[p.Node].Kind == api.Back {
			distance++
		}
		if p.Round+distance == s {
			return true
		}
	}
	return false
}

func (m *model) frontier(w, x int) []api.Time {
	var can []api.Time
	for e := 0; e <= 5; e++ {
		for s := 0; s < m.g.Rounds; s++ {
			if m.canStillCome(w, x, e, s) {
				can = append(can, api.Time{Epoch: e, Round: s})
			}
		}
	}
	var all []api.Time
	for _, time := range can {
		if !hasOtherUpTo(can, time) {
			all = append(all, time)
		}
	}
	return all
}

func hasOtherUpTo(list []api.Time, time api.Time) bool {
	for _, other := range list {
		if other != time && isUpTo(other, time) {
			return true
		}
	}
	return false
}
