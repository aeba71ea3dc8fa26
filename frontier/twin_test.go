package frontier_test

import (
	"testing"

	"frontier/api"
	"frontier/frontier"
)

// twin is a run and the model of the same, with which the same is done.
type twin struct {
	t *testing.T
	r *frontier.Run
	m *model
}

func beginTwin(t *testing.T, g api.Graph, workers int) *twin {
	t.Helper()
	return &twin{t: t, r: mustBegin(t, g, workers), m: modelOf(g, workers)}
}

func (b *twin) give(w, n int, values ...int) {
	b.t.Helper()
	for _, v := range values {
		mustAnswer(b.t, b.r.Give(w, n, v), b.m.give(w, n, v))
	}
}

func (b *twin) advance(w, n int) {
	b.t.Helper()
	mustAnswer(b.t, b.r.Advance(w, n), b.m.advance(w, n))
}

func (b *twin) close(w, n int) {
	b.t.Helper()
	mustAnswer(b.t, b.r.Close(w, n), b.m.close(w, n))
}

// closeAll closes what is open.
func (b *twin) closeAll() {
	b.t.Helper()
	for w := 0; w < b.m.workers; w++ {
		for n := range b.m.g.Nodes {
			b.close(w, n)
		}
	}
}

// do does the action with this number.
func (b *twin) do(k int) api.Event {
	b.t.Helper()
	want, wantErrno := b.m.do(k)
	event, errno := b.r.Do(k)
	if event != want || errno != wantErrno {
		b.t.Fatalf("P11: Do(%d) = %+v, %d, want %+v, %d", k, event, errno, want, wantErrno)
	}
	return event
}

// must does an action that must be among those that there are.
func (b *twin) must(wanted ...api.Event) {
	b.t.Helper()
	for _, want := range wanted {
		number := -1
		for k, event := range b.m.actions() {
			if event == want {
				number = k
			}
		}
		if number < 0 {
			b.t.Fatalf("P10: %+v is not among the actions %+v", want, b.m.actions())
		}
		b.do(number)
	}
}
