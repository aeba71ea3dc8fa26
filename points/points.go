// Package points: what a worker believes of places and times, and what follows
// from that.
package points

import "frontier/api"

const (
	placeIn  = 0
	placeOut = 1
	places   = 2
)

// Change is what one doing does to points: at each of these there are Count
// more than before, which is fewer where Count is below 0.
type Change struct {
	Points []api.Point
}

// Believed is how many points a worker believes there are, at each place and time.
type Believed struct {
	counts [api.MaxNodes][places][api.MaxEpoch + 1][api.MaxRounds]int
}

// Believe takes a change for true.
func (b *Believed) Believe(change Change) {
	for _, p := range change.Points {
		if canBe(p) {
			b.counts[p.Node][placeOf(p.Out)][p.Epoch][p.Round] += p.Count
		}
	}
}

// Points answers the points of which there are more or less than none, in order.
func (b *Believed) Points() []api.Point {
	var all []api.Point
	for n := 0; n < api.MaxNodes; n++ {
		in := b.pointsAt(n, false)
		out := b.pointsAt(n, true)
		all = append(all, in...)
		all = append(all, out...)
	}
	return all
}

func (b *Believed) pointsAt(n int, out bool) []api.Point {
	var all []api.Point
	for epoch := 0; epoch <= api.MaxEpoch; epoch++ {
		for round := 0; round < api.MaxRounds; round++ {
			count := b.counts[n][placeOf(out)][epoch][round]
			if count != 0 {
				all = append(all, api.Point{Node: n, Out: out, Epoch: epoch, Round: round, Count: count})
			}
		}
	}
	return all
}

func canBe(p api.Point) bool {
	if p.Node < 0 || p.Node >= api.MaxNodes {
		return false
	}
	if p.Epoch < 0 || p.Epoch > api.MaxEpoch {
		return false
	}
	return p.Round >= 0 && p.Round < api.MaxRounds
}

func placeOf(out bool) int {
	if out {
		return placeOut
	}
	return placeIn
}
