package points

import (
	"slices"
	"testing"

	"frontier/api"
)

const (
	greatest = 1<<63 - 1
	least64  = -1 << 63
)

func in(n, epoch, round, count int) api.Point {
	return api.Point{Node: n, Epoch: epoch, Round: round, Count: count}
}

func out(n, epoch, round, count int) api.Point {
	return api.Point{Node: n, Out: true, Epoch: epoch, Round: round, Count: count}
}

func mustBelieve(t *testing.T, b *Believed, want ...api.Point) {
	t.Helper()
	if list := b.Points(); !slices.Equal(list, want) {
		t.Errorf("P9: the points are %+v, want %+v", list, want)
	}
}

// TestPointsBelowNone: a change can be told ahead of the one that it undoes.
func TestPointsBelowNone(t *testing.T) {
	var b Believed
	mustBelieve(t, &b)
	b.Believe(Change{Points: []api.Point{in(2, 0, 1, -1), in(3, 0, 1, 1)}})
	mustBelieve(t, &b, in(2, 0, 1, -1), in(3, 0, 1, 1))
	b.Believe(Change{Points: []api.Point{in(2, 0, 1, -2), in(3, 0, 1, 3)}})
	mustBelieve(t, &b, in(2, 0, 1, -3), in(3, 0, 1, 4))
	b.Believe(Change{})
	mustBelieve(t, &b, in(2, 0, 1, -3), in(3, 0, 1, 4))
	b.Believe(Change{Points: []api.Point{in(2, 0, 1, 3), in(3, 0, 1, -5)}})
	mustBelieve(t, &b, in(3, 0, 1, -1))
	b.Believe(Change{Points: []api.Point{in(3, 0, 1, 1)}})
	mustBelieve(t, &b)
	// The same place more than once in one change.
	b.Believe(Change{Points: []api.Point{in(3, 0, 1, 1), in(3, 0, 1, 1), out(3, 0, 1, -1)}})
	mustBelieve(t, &b, in(3, 0, 1, 2), out(3, 0, 1, -1))
}

// TestPointsInOrder believes in all points there can be, in the order backwards.
func TestPointsInOrder(t *testing.T) {
	var want []api.Point
	for n := 0; n < api.MaxNodes; n++ {
		for _, isOut := range []bool{false, true} {
			for epoch := 0; epoch <= api.MaxEpoch; epoch++ {
				for round := 0; round < api.MaxRounds; round++ {
					count := 1 + len(want)
					if len(want)%3 == 0 {
						count = -count
					}
					want = append(want, api.Point{Node: n, Out: isOut, Epoch: epoch, Round: round, Count: count})
				}
			}
		}
	}
	var b Believed
	backwards := slices.Clone(want)
	slices.Reverse(backwards)
	b.Believe(Change{Points: backwards})
	mustBelieve(t, &b, want...)
}

func TestPointsThatCannotBe(t *testing.T) {
	var b Believed
	for _, p := range []api.Point{in(-1, 0, 0, 1), in(8, 0, 0, 1), in(0, -1, 0, 1), in(0, 6, 0, 1), in(0, 0, -1, 1), in(0, 0, 4, 1), out(greatest, 0, 0, 1), out(0, least64, 0, 1), out(0, 0, greatest, 1)} {
		b.Believe(Change{Points: []api.Point{p}})
		mustBelieve(t, &b)
	}
}

func TestPointsAreTheCallers(t *testing.T) {
	var b Believed
	change := []api.Point{in(1, 0, 0, 1), out(1, 2, 3, 5)}
	b.Believe(Change{Points: change})
	change[0].Count = 9
	list := b.Points()
	list[1].Count = 9
	mustBelieve(t, &b, in(1, 0, 0, 1), out(1, 2, 3, 5))
	if change[1] != out(1, 2, 3, 5) {
		t.Errorf("P2: a change was written into: %+v", change)
	}
	// Two believers have nothing in common.
	other := b
	other.Believe(Change{Points: []api.Point{in(1, 0, 0, -1)}})
	mustBelieve(t, &b, in(1, 0, 0, 1), out(1, 2, 3, 5))
	mustBelieve(t, &other, out(1, 2, 3, 5))
}
