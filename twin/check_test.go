package twin

import (
	"math"
	"slices"
	"testing"

	"hyphen/api"
)

// checks holds Check against what is known; want below 0: it is no round.
func checks(t *testing.T, s api.Side, want int, l ...int) {
	t.Helper()
	n, is := Check(s, l)
	if is != (want >= 0) || is && n != want || !is && n != 0 {
		t.Errorf("P801: Check of %v, %.200v: %d, %v, not %d", s.Arcs, l, n, is, want)
	}
}

// Rounds, from wherever they are told (P801).
func TestCheckOfRounds(t *testing.T) {
	s := positions(t, "0 - - -", "0>1:1 1>1:7 1>2:20 1>3:0 2>0:300 2>3:0 3>3:0")
	checks(t, s, 321, 0, 1, 2)
	checks(t, s, 321, 1, 2, 0)
	checks(t, s, 321, 2, 0, 1)
	checks(t, s, 7, 1)
	checks(t, s, 0, 3)
	// A position twice, if all its Arcs are there.
	checks(t, s, 14, 1, 1)
	checks(t, s, 70, slices.Repeat([]int{1}, 10)...)
	checks(t, s, 0, 3, 3, 3)
	checks(t, s, 328, 0, 1, 1, 2)
	checks(t, s, 335, 1, 1, 2, 0, 1)
	checks(t, s, 642, 0, 1, 2, 0, 1, 2)
	checks(t, positions(t, "- -", "0>1:2 1>0:0"), 4, 0, 1, 0, 1)
	// No First leads there; it ends nowhere.
	s = positions(t, "- -", "0>1:0 1>0:5")
	s.Ends = []int{api.Inf, api.Inf}
	checks(t, s, 5, 1, 0)
}

// No positions, what is none, no Arc between, or none back: no round (P801, P4).
func TestCheckOfWhatIsNone(t *testing.T) {
	s := positions(t, "0 - - -", "0>1:1 1>1:7 1>2:20 1>3:0 2>0:300 2>3:0 3>3:0")
	checks(t, s, -1)
	checks(t, api.Side{}, -1)
	checks(t, api.Side{}, -1, 0)
	checks(t, positions(t, "0 0", ""), -1, 0)
	checks(t, positions(t, "0 0", ""), -1, 0, 1)
	checks(t, positions(t, "0 0", "0>1:0"), -1, 0, 1)
	checks(t, positions(t, "0 0", "0>1:0"), -1, 1, 0)
	checks(t, s, -1, 0)
	checks(t, s, -1, 2)
	checks(t, s, -1, 2, 1, 0)
	checks(t, s, -1, 0, 1)
	checks(t, s, -1, 0, 1, 3)
	checks(t, s, -1, 0, 2, 1)
	checks(t, s, -1, 3, 0, 1, 2)
	checks(t, s, -1, 0, 1, 2, 2)
	checks(t, s, -1, 0, 0, 1, 2)
	checks(t, s, -1, 1, 1, 3)
	for _, at := range []int{math.MinInt, -api.Inf, -1, 4, 5, 1 << 32, 1 << 40, math.MaxInt} {
		checks(t, s, -1, at)
		checks(t, s, -1, at, at)
		checks(t, s, -1, at, 1, 2)
		checks(t, s, -1, 0, at, 2)
		checks(t, s, -1, 0, 1, at)
		checks(t, s, -1, 0, 1, 2, at)
		checks(t, s, -1, 1, at)
	}
}

// What is Inf or more is Inf (W3): so much that it would wrap round, too.
func TestCheckOfInf(t *testing.T) {
	s := positions(t, "0 0", "0>0:1152921504606846975 0>1:1 1>0:1152921504606846974 1>1:1152921504606846975")
	checks(t, s, api.Inf-1, 0)
	checks(t, s, api.Inf-1, 0, 1)
	checks(t, s, api.Inf, 0, 0)
	checks(t, s, api.Inf, 0, 1, 1)
	for _, n := range []int{3, 7, 8, 9, 15, 16, 17, 31, 32, 33, 10000} {
		checks(t, s, api.Inf, slices.Repeat([]int{0}, n)...)
		checks(t, s, api.Inf, slices.Repeat([]int{1, 0}, n)...)
	}
}

// A long row ends soon (P1).
func TestCheckOfLongRow(t *testing.T) {
	s := each(api.MaxPos, func(from, to int) int { return from + to })
	var l []int
	for at := range 1200000 {
		l = append(l, at%api.MaxPos)
	}
	checks(t, s, 10000*120*119, l...)
	l = append(l, api.MaxPos)
	checks(t, s, -1, l...)
}

// Thrown rows: as the words say (P801).
func TestCheckOfThrown(t *testing.T) {
	d := &dice{43}
	rounds := 0
	for range 40000 {
		s := d.side(4)
		l := d.row(len(s.Sets))
		want, may := around(s, l)
		if !may {
			want = -1
		} else {
			rounds++
		}
		checks(t, s, want, l...)
	}
	if rounds < 2000 {
		t.Errorf("only %d rounds", rounds)
	}
}
