package twin

import (
	"fmt"
	"slices"
	"strings"
	"testing"

	"hyphen/api"
)

// No positions, no Arcs: no round (P801).
func TestRoundOfNone(t *testing.T) {
	checkRound(t, api.Side{}, false)
	checkRound(t, api.Side{None: 5}, false)
	checkRound(t, positions(t, "0", ""), false)
	checkRound(t, positions(t, "0 0 -", ""), false)
}

// Whether a round costs, and which, where there is just one (P801).
func TestRoundsThatAreKnown(t *testing.T) {
	for _, c := range []struct{ first, arcs, want string }{
		// From a position to itself.
		{"0", "0>0:0", "-"},
		{"0", "0>0:1", "0"},
		{"0 0", "0>1:1 1>1:0", "-"},
		{"0 0", "0>1:0 1>1:1", "1"},
		{"0 0 0", "0>1:0 1>2:0 2>2:1152921504606846975", "2"},
		// Arcs that cost, but lie in no round.
		{"0 0", "0>1:5", "-"},
		{"0 0", "1>0:5", "-"},
		{"0 0 0", "0>1:5 0>2:1 1>2:5", "-"},
		{"0 0 0 0", "0>1:0 1>0:0 1>2:7 2>3:0 3>2:0", "-"},
		{"0 0 0 0", "0>2:0 1>3:0 2>0:0 2>1:7 3>1:0", "-"},
		// Rounds of nothing.
		{"0 0", "0>1:0 1>0:0", "-"},
		{"0 0 0", "0>0:0 0>1:0 1>2:0 2>0:0", "-"},
		// Wherever in it the cost is.
		{"0 0", "0>1:1 1>0:0", "0 1"},
		{"0 0", "0>1:0 1>0:1", "0 1"},
		{"0 0 0", "0>1:0 1>2:0 2>0:4", "0 1 2"},
		{"0 0 0", "0>1:0 1>2:4 2>0:0", "0 1 2"},
		{"0 0 0", "0>2:4 1>0:0 2>1:0", "0 1 2"},
		{"0 0 0 0", "0>1:9 1>2:9 2>3:0 3>1:1", "1 2 3"},
		{"0 0 0 0 0", "0>3:9 1>4:0 2>0:9 3>1:0 4>3:2", "1 3 4"},
		// Two rounds that share positions: the one costs, the other not.
		{"0 0 0", "0>1:0 1>0:0 1>2:0 2>1:1", "1 2"},
		{"0 0 0", "0>1:1 1>0:0 1>2:0 2>1:0", "0 1"},
		{"0 0 0 0", "0>1:0 1>2:0 2>0:0 2>3:0 3>1:6", "1 2 3"},
		{"0 0 0 0", "0>1:0 0>3:0 1>2:0 2>0:0 3>2:6", "0 2 3"},
		// A round that costs nothing beside one that does.
		{"0 0", "0>0:0 1>1:3", "1"},
		{"0 0", "0>0:3 1>1:0", "0"},
		{"0 0 0 0", "0>1:0 1>0:0 2>3:0 3>2:3", "2 3"},
		{"0 0 0 0", "0>1:0 1>0:0 1>2:8 2>3:0 3>2:3", "2 3"},
		{"0 0 0 0", "0>1:0 1>0:3 1>2:8 2>3:0 3>2:0", "0 1"},
		// A round by the cost of a shortcut, where the long way round costs nothing.
		{"0 0 0", "0>1:0 0>2:1 1>2:0 2>0:0", "0 2"},
		{"0 0 0", "0>0:2 0>1:0 1>2:0 2>0:0", "0"},
	} {
		l := checkRound(t, positions(t, c.first, c.arcs), c.want != "-")
		slices.Sort(l)
		if got := strings.Trim(fmt.Sprint(l), "[]"); c.want != "-" && got != c.want {
			t.Errorf("P801: Round of %s: %s, not %s", c.arcs, got, c.want)
		}
	}
}

// Which positions a match begins with, or ends with, and of which set they are, has no say: nor whether a First leads there at all (P801).
func TestRoundsNoFirstLeadsTo(t *testing.T) {
	checkRound(t, positions(t, "- -", "0>1:0 1>0:1"), true)
	checkRound(t, positions(t, "- -", "0>1:0 1>0:0"), false)
	checkRound(t, positions(t, "0 - -", "1>2:0 2>1:1"), true)
	checkRound(t, positions(t, "0 - -", "1>0:0 1>2:1 2>1:0"), true)
	s := positions(t, "- - -", "0>1:0 1>0:1 1>2:0")
	for _, n := range []int{0, 7, api.Inf} {
		for at := range s.Sets {
			s.Ends[at], s.Sets[at] = n, n%13
		}
		s.None = n
		checkRound(t, s, true)
	}
}

// A hundred and twenty positions, with an Arc from each to each (P801).
func TestRoundOfManyArcs(t *testing.T) {
	nothing := func(int, int) int { return 0 }
	checkRound(t, each(api.MaxPos, nothing), false)
	checkRound(t, each(api.MaxPos, func(int, int) int { return 1 }), true)
	checkRound(t, each(api.MaxPos, func(from, to int) int { return from*to + api.MaxW }), true)
	for _, one := range [][2]int{{0, 0}, {0, 119}, {119, 0}, {119, 119}, {60, 59}, {3, 77}} {
		checkRound(t, each(api.MaxPos, func(from, to int) int {
			if from == one[0] && to == one[1] {
				return 2
			}
			return 0
		}), true)
	}
	// Forward at a cost, back nowhere; within two halves for nothing, between them at a cost.
	checkRound(t, each(api.MaxPos, func(from, to int) int {
		if from < to {
			return 1
		}
		return api.Inf
	}), false)
	halves := func(from, to int) int {
		switch {
		case from%2 == to%2:
			return 0
		case from%2 == 0:
			return 9
		}
		return api.Inf
	}
	checkRound(t, each(api.MaxPos, halves), false)
	checkRound(t, each(api.MaxPos, func(from, to int) int {
		if from == 117 && to == 4 {
			return 0
		}
		return halves(from, to)
	}), true)
}

// ring is so many positions, each with an Arc to the next one, the last one back at a cost of w.
func ring(size, w int) api.Side {
	s := api.Side{Sets: make([]int, size), First: slices.Repeat([]int{api.Inf}, size), Ends: make([]int, size)}
	s.First[0] = 0
	for at := range size - 1 {
		s.Arcs = append(s.Arcs, api.Arc{From: at, To: at + 1})
	}
	s.Arcs = append(s.Arcs, api.Arc{From: size - 1, To: 0, W: w})
	return s
}

// Far more positions than a pattern has: each call ends soon (P1, P801).
func TestRoundOfLongRing(t *testing.T) {
	const size = 300000
	s := ring(size, 1)
	if l := checkRound(t, s, true); len(l) != size {
		t.Errorf("P801: a round of %d", len(l))
	}
	if l, is := Way(s, size-1); !is || len(l) != size || l[0] != 0 || l[size-1] != size-1 {
		t.Errorf("P801: a way of %d, %v", len(l), is)
	}
	checkRound(t, ring(size, 0), false)
	// Each arc costs, none is in a round.
	for i := range s.Arcs {
		s.Arcs[i].W = 1
	}
	s.Arcs = s.Arcs[:size-1]
	checkRound(t, s, false)
}

// small tells a side of size positions by a number: of each two whether an arc is there, and whether it costs.
func small(size, k int) api.Side {
	s := each(size, func(int, int) int {
		w := []int{api.Inf, 0, 1}[k%3]
		k /= 3
		return w
	})
	for at := range s.First {
		s.First[at] = []int{api.Inf, 0}[k%2]
		k /= 2
	}
	return s
}

// All sides of one, two, three positions: as all rounds, one by one, say; and all ways (P801).
func TestAllSmallSides(t *testing.T) {
	for size, count := range []int{1, 3 * 2, 81 * 4, 19683 * 8} {
		for k := range count {
			s := small(size, k)
			if k < count>>size {
				want := hasRound(s, nil)
				if want != hasPaid(s) {
					t.Fatalf("%v: %v", s.Arcs, want)
				}
				checkRound(t, s, want)
			}
			checkWays(t, s)
		}
	}
}

// Thrown sides (P801).
func TestThrownSides(t *testing.T) {
	d := &dice{41}
	rounds := 0
	for range 6000 {
		s := d.side(2 + d.of(12))
		want := hasPaid(s)
		if len(s.Sets) < 6 && want != hasRound(s, nil) {
			t.Fatalf("%v: %v", s.Arcs, want)
		}
		checkRound(t, s, want)
		checkWays(t, s)
		if want {
			rounds++
		}
	}
	if rounds < 1000 || rounds > 5000 {
		t.Errorf("%d of 6000 have rounds that cost", rounds)
	}
}
