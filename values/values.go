// Package values: arithmetic on values, and lists of them.
package values

import "frontier/api"

// Rest is the rest of v by k; 0 for a k that has no rests.
func Rest(v int, k int) int {
	if k <= 0 {
		return 0
	}
	rest := v % k
	// Go's remainder has the sign of v, a rest never is below 0.
	if rest < 0 {
		rest += k
	}
	return rest
}

// Plus answers a fresh list of the values, each with k added.
func Plus(list []int, k int) []int {
	var all []int
	for _, v := range list {
		all = append(all, v+k)
	}
	return all
}

// WithRest answers a fresh list of those values whose rest by k is m.
func WithRest(list []int, k int, m int) []int {
	var all []int
	for _, v := range list {
		if Rest(v, k) == m {
			all = append(all, v)
		}
	}
	return all
}

// Sorted answers a fresh list of the values, the least first.
func Sorted(list []int) []int {
	if len(list) < 2 {
		return append([]int{}, list...)
	}
	half := len(list) / 2
	low := Sorted(list[:half])
	high := Sorted(list[half:])
	return mergeSorted(low, high)
}

func mergeSorted(low []int, high []int) []int {
	var all []int
	next := 0
	for _, v := range low {
		for next < len(high) && high[next] < v {
			all = append(all, high[next])
			next++
		}
		all = append(all, v)
	}
	return append(all, high[next:]...)
}

// Distinct answers a fresh list that has each of the values once, the least first.
func Distinct(list []int) []int {
	sorted := Sorted(list)
	var all []int
	for i, v := range sorted {
		if i == 0 || sorted[i-1] != v {
			all = append(all, v)
		}
	}
	return all
}

// Groups is the sums of values in groups; the group of a value is its rest by k.
type Groups struct {
	sums [api.MaxGroups]int
	met  [api.MaxGroups]bool
}

// Add adds a value up in its group.
func (g *Groups) Add(v int, k int) {
	group := Rest(v, k)
	if group < api.MaxGroups {
		g.sums[group] += v
		g.met[group] = true
	}
}

// Sums answers the sum of each group that has a value, in order of the groups.
func (g *Groups) Sums() []int {
	var all []int
	for group := 0; group < api.MaxGroups; group++ {
		// A group whose values add up to 0 has a sum, an empty one has none.
		if g.met[group] {
			all = append(all, g.sums[group])
		}
	}
	return all
}

// GroupSums answers the sums of the groups of a list of values.
func GroupSums(list []int, k int) []int {
	var groups Groups
	for _, v := range list {
		groups.Add(v, k)
	}
	return groups.Sums()
}
