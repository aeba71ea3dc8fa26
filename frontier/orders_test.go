package frontier_test

import (
	"fmt"
	"maps"
	"slices"
	"testing"

	"frontier/api"
	"frontier/frontier"
)

// clone is a model with which something else can be done.
func (m *model) clone() *model {
	other := *m
	other.given = slices.Clone(m.given)
	other.epochs, other.closed = maps.Clone(m.epochs), maps.Clone(m.closed)
	other.waiting = maps.Clone(m.waiting)
	for at, list := range m.waiting {
		other.waiting[at] = slices.Clone(list)
	}
	other.met, other.wanted = maps.Clone(m.met), maps.Clone(m.wanted)
	for at := range m.met {
		other.met[at] = maps.Clone(m.met[at])
		other.wanted[at] = maps.Clone(m.wanted[at])
		for time, groups := range m.wanted[at] {
			other.wanted[at][time] = maps.Clone(groups)
		}
	}
	other.believed = slices.Clone(m.believed)
	for w := range m.believed {
		other.believed[w] = maps.Clone(m.believed[w])
	}
	other.onTheWay = maps.Clone(m.onTheWay)
	for from, list := range m.onTheWay {
		other.onTheWay[from] = slices.Clone(list)
	}
	other.records = slices.Clone(m.records)
	return &other
}

// fingerprint is the same for states from which the same can happen.
func (m *model) fingerprint() string {
	return fmt.Sprint(m.waiting, m.met, m.wanted, m.believed, m.onTheWay, counted(m.records))
}

// state is one that a run can come to: by these actions, one after the other.
type state struct {
	path []int
	m    *model
	past [api.MaxWorkers][api.MaxNodes][6][api.MaxRounds]bool
}

// orders goes through all states that a run can come to, in every order of doing.
type orders struct {
	t     *testing.T
	begin func() *frontier.Run
	met   map[string]*state
	next  []*state
	ends  int
}

func (o *orders) visit(path []int, m *model, r *frontier.Run) *state {
	o.t.Helper()
	key := m.fingerprint()
	if o.met[key] != nil {
		return o.met[key]
	}
	s := &state{path: path, m: m}
	o.met[key] = s
	o.next = append(o.next, s)
	mustBeAs(o.t, r, m)
	for w := 0; w < m.workers; w++ {
		for n := range m.g.Nodes {
			times, _ := r.Frontier(w, n)
			for e := 0; e <= 5; e++ {
				for round := 0; round < m.g.Rounds; round++ {
					s.past[w][n][e][round] = !letsCome(times, when(e, round))
				}
			}
		}
	}
	o.mustLetWait(s)
	if len(m.actions()) == 0 {
		o.ends++
		end := watch{twin: &twin{o.t, r, m}, meaning: counted(wantedMeaning(m.g, m.given))}
		end.lookAtOut()
		end.lookAtEnd()
	}
	return s
}

// mustLetWait: what waits is let come by all that is known, or it would be notified of too early.
func (o *orders) mustLetWait(s *state) {
	o.t.Helper()
	for at, list := range s.m.waiting {
		for _, message := range list {
			for w := 0; w < s.m.workers; w++ {
				if s.past[w][at.n][message.Epoch][message.Round] {
					o.t.Fatalf("P13: behind %v %+v waits at %+v, which the Frontier of the worker %d does not let come", s.path, message, at, w)
				}
			}
		}
	}
}

// mustStayPast: what a Frontier does not let come it does not let come later either.
func (o *orders) mustStayPast(s, next *state) {
	o.t.Helper()
	for w := 0; w < s.m.workers; w++ {
		for n := range s.m.g.Nodes {
			for e := range s.past[w][n] {
				for round := 0; round < s.m.g.Rounds; round++ {
					if s.past[w][n][e][round] && !next.past[w][n][e][round] {
						o.t.Fatalf("P13: behind %v the Frontier of the worker %d at %d lets (%d, %d) come again", next.path, w, n, e, round)
					}
				}
			}
		}
	}
}

// again is a run at a state.
func (o *orders) again(s *state) *frontier.Run {
	r := o.begin()
	for _, k := range s.path {
		r.Do(k)
	}
	return r
}

func (o *orders) step(s *state) {
	o.t.Helper()
	for k := range s.m.actions() {
		b := twin{o.t, o.again(s), s.m.clone()}
		b.do(k)
		next := o.visit(append(slices.Clone(s.path), k), b.m, b.r)
		o.mustStayPast(s, next)
	}
}

// mustEnd goes through all orders of doing what is to be done behind a script.
func mustEnd(t *testing.T, g api.Graph, workers int, script func(b *twin)) {
	t.Helper()
	b := beginTwin(t, g, workers)
	script(b)
	again := func() *frontier.Run {
		other := beginTwin(t, g, workers)
		script(other)
		return other.r
	}
	o := &orders{t: t, begin: again, met: map[string]*state{}}
	o.visit(nil, b.m, b.r)
	for len(o.next) > 0 {
		s := o.next[len(o.next)-1]
		o.next = o.next[:len(o.next)-1]
		o.step(s)
		if len(o.met) > 20000 {
			t.Fatalf("P13: %+v goes on and on", g)
		}
	}
	if o.ends == 0 || len(o.met) < 90 {
		t.Errorf("of %+v only %d states and %d ends were met", g, len(o.met), o.ends)
	}
}

func TestEveryOrder(t *testing.T) {
	mustEnd(t, graphOf(1, src(), sum(0, 2), sink(1)), 2, func(b *twin) {
		b.give(0, 0, 1)
		b.give(1, 0, 2)
		b.closeAll()
	})
	mustEnd(t, graphOf(2, src(), merge(0, 3), sum(1, 1), back(2), sink(2)), 2, func(b *twin) {
		b.give(1, 0, 1)
		b.closeAll()
	})
	mustEnd(t, graphOf(1, src(), once(0), sum(1, 2), sink(2)), 3, func(b *twin) {
		b.give(0, 0, 1)
		b.closeAll()
	})
	// What two put out meets on the third: one that is told of one of them, and
	// of work at the other, believes that nothing waits there.
	mustEnd(t, graphOf(1, src(), once(0), sum(1, 1)), 3, func(b *twin) {
		b.give(0, 0, 1)
		b.give(2, 0, 1)
		b.closeAll()
	})
	mustEnd(t, graphOf(1, src(), sum(0, 2), add(1, 1), sum(2, 2), sink(3)), 2, func(b *twin) {
		b.give(0, 0, 1, 2)
		b.give(1, 0, 1, 2)
		b.closeAll()
	})
}
