package tree_test

import (
	"math"
	"slices"
	"testing"

	"probate/api"
	"probate/tree"
)

// ahead holds that a stands ahead of b, and not the other way round, twice the same, and that both stay as they were (R3, R4).
func ahead(t *testing.T, a, b []int) {
	t.Helper()
	oldA, oldB := slices.Clone(a), slices.Clone(b)
	for range 2 {
		if !tree.Less(a, b) || tree.Less(b, a) {
			t.Errorf("Less: %v isn't ahead of %v", shorter(a), shorter(b))
		}
	}
	if !slices.Equal(a, oldA) || !slices.Equal(b, oldB) {
		t.Errorf("Less changed %v, %v", oldA, oldB)
	}
}

// P15.1: no list stands ahead of the same one, be it that one itself or a copy.
func TestLessSame(t *testing.T) {
	for _, l := range [][]int{nil, {}, {0}, {7}, {-1}, {math.MinInt}, {math.MaxInt}, {0, 0}, {0, 1, 2}, {2, 1, 0}, {-1, 5, -1}, times(api.MostSteps, 3)} {
		for _, other := range [][]int{l, slices.Clone(l), append(make([]int, 0, len(l)+7), l...)} {
			if tree.Less(l, other) || tree.Less(other, l) {
				t.Errorf("%v is ahead of the same one", shorter(l))
			}
		}
	}
}

// P15.1: a list stands ahead of those that it is the beginning of; R6: an empty one and none are one.
func TestLessBeginning(t *testing.T) {
	for _, none := range [][]int{nil, {}, make([]int, 0, 5)} {
		for _, other := range [][]int{nil, {}, make([]int, 0, 5)} {
			if tree.Less(none, other) {
				t.Errorf("%v is ahead of %v", none, other)
			}
		}
		for _, n := range []int{0, 1, -1, math.MinInt, math.MaxInt} {
			ahead(t, none, []int{n})
			ahead(t, none, []int{n, n, n})
		}
	}
	l := []int{3, 0, -2, 0, 7, math.MaxInt, math.MinInt, 5}
	for longer := range len(l) + 1 {
		for short := range longer {
			ahead(t, l[:short], l[:longer])
			ahead(t, slices.Clone(l[:short]), l[:longer])
		}
	}
	ahead(t, times(api.MostSteps, 0), times(api.MostSteps+1, 0))
	ahead(t, times(5, -1), times(6, -1))
}

// P15.1: lists that differ first at the first, at a later, and at the last number, whichever is the longer one, and whatever stands behind.
func TestLessDiffer(t *testing.T) {
	ahead(t, []int{0}, []int{1})
	ahead(t, []int{0, 9, 9}, []int{1})
	ahead(t, []int{0}, []int{1, 0, 0})
	ahead(t, []int{2, 3}, []int{2, 4})
	ahead(t, []int{2, 3, 4, 5}, []int{2, 4})
	ahead(t, []int{2, 3}, []int{2, 4, 0, 0})
	ahead(t, []int{2, 3, 9}, []int{2, 4, 0})
	ahead(t, []int{9}, []int{10})
	ahead(t, []int{5, 4, 3, 2, 1}, []int{5, 4, 3, 2, 2})
	lesser, greater := []int{1, 5, 0, 3, 8, 2}, []int{1, 5, 0, 3, 8, 2}
	for at := range lesser {
		for by := 1; by < 4; by++ {
			a, b := slices.Clone(lesser), slices.Clone(greater)
			b[at] += by
			for cutA := at + 1; cutA <= len(a); cutA++ {
				for cutB := at + 1; cutB <= len(b); cutB++ {
					ahead(t, a[:cutA], b[:cutB])
				}
			}
			for i := at + 1; i < len(a); i++ { // all behind is the other way round
				a[i], b[i] = 100, -100
				ahead(t, a, b)
			}
		}
	}
	a, b := times(api.MostSteps, 1), times(api.MostSteps, 1)
	b[api.MostSteps-1] = 2
	ahead(t, a, b)
	ahead(t, append(a, 9), b)
}

// P15.1: numbers below 0, and great ones.
func TestLessNumbers(t *testing.T) {
	rising := []int{math.MinInt, math.MinInt + 1, math.MinInt32 - 1, math.MinInt32, -256, -2, -1, 0, 1, 2, 255, 256, math.MaxInt32, math.MaxInt32 + 1, math.MaxUint32, math.MaxUint32 + 1, math.MaxInt - 1, math.MaxInt}
	for i, greater := range rising {
		for _, lesser := range rising[:i] {
			ahead(t, []int{lesser}, []int{greater})
			ahead(t, []int{4, lesser, 9}, []int{4, greater})
			ahead(t, []int{4, lesser}, []int{4, greater, 9})
			ahead(t, []int{greater, lesser}, []int{greater, greater})
		}
	}
}

// P15.1: of all lists of up to four numbers, in order, each stands ahead of just those behind it.
func TestLessAll(t *testing.T) {
	var all [][]int
	rows(nil, -1, 2, 4, func(l []int) bool {
		all = append(all, slices.Clone(l))
		return true
	})
	if len(all) != 1+3+9+27+81 {
		t.Fatalf("%d lists", len(all))
	}
	for i, a := range all {
		for k, b := range all {
			if tree.Less(a, b) != (i < k) {
				t.Fatalf("Less(%v, %v): %v", a, b, i >= k)
			}
		}
	}
}
