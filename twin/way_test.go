package twin

import (
	"math"
	"testing"

	"hyphen/api"
)

// What is no position has no way to it, nor has one of no positions (P801).
func TestWayToNone(t *testing.T) {
	for _, to := range []int{math.MinInt, -api.Inf, -1, 2, 3, 1 << 32, 1 << 40, api.Inf, math.MaxInt} {
		checkWay(t, positions(t, "0 0", "0>0:0 0>1:0 1>0:0 1>1:0"), to, "[] false")
		checkWay(t, api.Side{}, to, "[] false")
	}
	checkWay(t, api.Side{}, 0, "[] false")
	checkWay(t, api.Side{}, 1, "[] false")
}

// A First itself: it alone, whatever leads to it, and whatever it costs to begin there (P801).
func TestWayToFirst(t *testing.T) {
	checkWay(t, positions(t, "0", ""), 0, "[0] true")
	checkWay(t, positions(t, "0", "0>0:0"), 0, "[0] true")
	checkWay(t, positions(t, "0 5", "0>1:0"), 1, "[1] true")
	checkWay(t, positions(t, "0 1000000", "0>1:0 1>0:0"), 1, "[1] true")
	checkWay(t, positions(t, "0 1152921504606846975", "0>1:0"), 1, "[1] true")
	checkWay(t, positions(t, "- - 0", "0>1:0 1>2:0 2>0:0"), 2, "[2] true")
}

// First that is Inf everywhere, or where no way begins (P801, W3).
func TestNoWay(t *testing.T) {
	s := positions(t, "- - -", "0>0:0 0>1:0 1>2:0 2>0:0")
	for to := range 3 {
		checkWay(t, s, to, "[] false")
	}
	s.First = []int{api.Inf + 1, math.MaxInt, api.Inf}
	for to := range 3 {
		checkWay(t, s, to, "[] false")
	}
	s = positions(t, "0 - - -", "0>1:0 2>1:0 2>3:0 3>2:0")
	checkWay(t, s, 1, "[0 1] true")
	checkWay(t, s, 2, "[] false")
	checkWay(t, s, 3, "[] false")
	checkWay(t, positions(t, "0 -", "1>0:0"), 1, "[] false")
	checkWay(t, positions(t, "0 -", "1>1:0"), 1, "[] false")
}

// As few as may be, whatever they cost (P801).
func TestWayOfFew(t *testing.T) {
	s := positions(t, "0 - - - -", "0>1:0 0>3:0 1>2:0 2>4:0 3>4:1000000")
	checkWay(t, s, 4, "[0 3 4] true")
	checkWay(t, s, 2, "[0 1 2] true")
	s = positions(t, "0 - - - 1000000", "0>1:0 1>2:0 2>3:0 4>3:1000000")
	checkWay(t, s, 3, "[4 3] true")
	checkWay(t, s, 2, "[0 1 2] true")
	// The First nearest behind, not the first one.
	s = positions(t, "0 - - 9 -", "0>1:0 1>2:0 2>3:0 3>4:0")
	checkWay(t, s, 4, "[3 4] true")
	// Against their order.
	s = positions(t, "- - - - 0", "1>0:0 2>1:0 3>2:0 4>3:0")
	checkWay(t, s, 0, "[4 3 2 1 0] true")
	// Past rounds, but not around them.
	s = positions(t, "0 - - -", "0>0:0 0>1:0 1>0:0 1>1:0 1>2:0 2>1:0 2>2:3 2>3:0 3>0:0")
	checkWay(t, s, 3, "[0 1 2 3] true")
}

// A hundred and twenty positions: an Arc from each to each, or to just the next one and all behind (P801).
func TestWayOfManyArcs(t *testing.T) {
	all := each(api.MaxPos, func(int, int) int { return 1 })
	checkWays(t, all)
	for at := range all.First {
		all.First[at] = api.Inf
	}
	checkWays(t, all)
	all.First[77] = 0
	checkWays(t, all)
	checkWay(t, all, 3, "[77 3] true")
	checkWay(t, all, 77, "[77] true")
	back := each(api.MaxPos, func(from, to int) int {
		if to > from+1 {
			return api.Inf
		}
		return 0
	})
	for at := range back.First[1:] {
		back.First[1+at] = api.Inf
	}
	checkWays(t, back)
	if l, is := Way(back, 119); !is || len(l) != 120 {
		t.Errorf("P801: a way of %d, %v", len(l), is)
	}
}
