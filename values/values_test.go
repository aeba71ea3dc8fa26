package values

import (
	"slices"
	"testing"
)

const (
	greatest = 1<<63 - 1
	least    = -1 << 63
)

func TestRest(t *testing.T) {
	for _, c := range []struct{ v, k, want int }{
		{0, 1, 0}, {5, 1, 0}, {5, 3, 2}, {6, 3, 0}, {-1, 3, 2}, {-3, 3, 0}, {-4, 3, 2}, {-1, 100, 99}, {least, 8, 0}, {least, 7, 6}, {greatest, 8, 7}, {least, greatest, greatest - 1},
		{5, 0, 0}, {5, -3, 0}, {least, -1, 0},
	} {
		if rest := Rest(c.v, c.k); rest != c.want {
			t.Errorf("P5: Rest(%d, %d) = %d, want %d", c.v, c.k, rest, c.want)
		}
	}
}

// lists has lists of many lengths, with values that come again.
func lists() [][]int {
	all := [][]int{nil, {}, {3}, {3, 3}, {greatest, least, 0, least}, {1, 2, 3, 4, 5}, {5, 4, 3, 2, 1}}
	for length := 6; length < 200; length += 7 {
		list := make([]int, length)
		for i := range list {
			list[i] = (i*i*31+length)%23 - 11
		}
		all = append(all, list)
	}
	return all
}

func TestSortedAndDistinct(t *testing.T) {
	for _, list := range lists() {
		before := slices.Clone(list)
		want := slices.Clone(list)
		slices.Sort(want)
		sorted := Sorted(list)
		if !slices.Equal(sorted, want) {
			t.Errorf("P5: Sorted(%v) = %v", list, sorted)
		}
		if distinct := Distinct(list); !slices.Equal(distinct, slices.Compact(want)) {
			t.Errorf("P5: Distinct(%v) = %v", list, distinct)
		}
		for i := range sorted {
			sorted[i] = 77
		}
		if !slices.Equal(list, before) {
			t.Errorf("P2: a list was written into: %v, was %v", list, before)
		}
	}
}

func TestPlusAndWithRest(t *testing.T) {
	list := []int{1, -1, greatest, least, 4, 1}
	if plus := Plus(list, 1); !slices.Equal(plus, []int{2, 0, least, least + 1, 5, 2}) {
		t.Errorf("P5: Plus 1 = %v", plus)
	}
	if some := WithRest(list, 3, 1); !slices.Equal(some, []int{1, greatest, least, 4, 1}) {
		t.Errorf("P5: WithRest 1 by 3 = %v", some)
	}
}

func TestGroupSums(t *testing.T) {
	for _, c := range []struct {
		list []int
		k    int
		want []int
	}{
		{nil, 3, nil}, {[]int{0}, 3, []int{0}}, {[]int{3, -3}, 3, []int{0}}, {[]int{5, 4, -1, 2}, 3, []int{4, 6}}, {[]int{15, 7, 8}, 8, []int{8, 22}}, {[]int{greatest, 1}, 1, []int{least}},
		// No Sum has so many groups; the call ends all the same.
		{[]int{1, 8, 7, 99}, 100, []int{1, 7}},
	} {
		if sums := GroupSums(c.list, c.k); !slices.Equal(sums, c.want) {
			t.Errorf("P5: GroupSums(%v, %d) = %v, want %v", c.list, c.k, sums, c.want)
		}
	}
}
