package det

import (
	"math"
	"slices"
	"testing"

	"hyphen/api"
)

// refused is what is told beside Budget: nothing (P4).
const refused = "{[] []} budget"

// checkBudget holds Make against how many states there are: as many may be, one less not (P1001).
func checkBudget(t *testing.T, states int, g given) {
	t.Helper()
	want := g.says(plenty)
	if f, e := g.made(plenty); e != api.OK || len(f.Next) != states {
		t.Fatalf("P1001: %d states, not %d, %v", len(f.Next), states, e)
	}
	for _, budget := range []int{states, states + 1, 2 * states, 100000, 100001, math.MaxInt} {
		if got := g.says(budget); got != want {
			t.Errorf("P1001: of a budget of %d: %s, not %s", budget, got, want)
		}
	}
	for _, budget := range []int{states - 1, states / 2, 1, 0, -1, -states, -100000, math.MinInt} {
		if got := g.says(budget); budget < states && got != refused {
			t.Errorf("P1001: of a budget of %d for %d states: %s", budget, states, got)
		}
	}
}

// As many states as there are, one less; 0, and below (P1001).
func TestBudget(t *testing.T) {
	checkBudget(t, 1, reads(t, "", 1, "()"))
	checkBudget(t, 1, reads(t, "", 0, ""))
	checkBudget(t, 1, reads(t, "", 2, "1", "line 4 / ; ; ; ; 0"))
	checkBudget(t, 1, reads(t, "00", 2, "1", "line 4 / 0; 0; 0; ; 0"))
	checkBudget(t, 1, reads(t, "01", 0, "1", "line 4 / .; 0; 0; ; 0"))
	checkBudget(t, 2, reads(t, "01", 2, "1", "line 4 / 0; 0; 0; ; -"))
	// What is not alike only in its row counts, too; whether a row of sets tells it or not.
	checkBudget(t, 4, reads(t, "01", 2, "1", "line 4 / 0 0 0; 0 - -; - - 0; 0>1 1>2; 0"))
	checkBudget(t, 4, reads(t, "01", 2, "0", "line 4 / 0 0 0; 0 - -; - - 0; 0>1 1>2; -"))
	checkBudget(t, 4, reads(t, "01", 2, "", "line 4 / 0 0 0; 0 - -; - - -; 0>1 1>2; -"))
	checkBudget(t, 32, alone("01", 2, chain(4, 0)))
	// No lane alone has as many states as all together.
	checkBudget(t, 243, alone("010 001", 3, chain(4, 0), chain(4, 1)))
	checkBudget(t, 243, alone("010 001", 3, chain(4, 0), chain(2, 1), chain(4, 1)))
	// The last state met is the one too many.
	checkBudget(t, api.MaxPos+1, alone("01", 2, line(api.MaxPos)))
}

// digits tells sides that keep the last five letters of ten apart: 100000 states.
func digits() given {
	g := given{letters: 10, rules: make([]api.Rule, 9), sets: [][]bool{slices.Repeat([]bool{true}, 9)}}
	for set := range 9 {
		g.sides = append(g.sides, chain(4, set))
		g.in = append(g.in, make([]bool, 10))
		g.in[set][set+1] = true
		g.rules[set].Cost = set
	}
	return g
}

// A hundred thousand states may be, one more not, whatever the budget (P1001).
func TestMostStates(t *testing.T) {
	g := digits()
	for _, budget := range []int{100000, 100001, math.MaxInt} {
		f, e := g.made(budget)
		if e != api.OK || len(f.Next) != 100000 || len(f.Emit) != 100000 {
			t.Errorf("P1001: of a budget of %d: %d states, %v", budget, len(f.Next), e)
		}
	}
	if got := g.says(99999); got != refused {
		t.Errorf("P1001: of a budget of 99999: %.100s", got)
	}
	// Whether any letter is there: 0's apart from place 0.
	g.rules, g.sides, g.sets = append(g.rules, api.Rule{}), append(g.sides, chain(0, -1)), nil
	for _, budget := range []int{99999, 100000, 100001, 200000, math.MaxInt} {
		if got := g.says(budget); got != refused {
			t.Errorf("P1001: 100001 states of a budget of %d: %.100s", budget, got)
		}
	}
}

// One side alone that has too many (P1001).
func TestMostStatesOfOneSide(t *testing.T) {
	g := alone("01", 2, chain(15, 0))
	if f, e := g.made(1 << 16); e != api.OK || len(f.Next) != 1<<16 {
		t.Errorf("P1001: %d states, %v", len(f.Next), e)
	}
	for _, budget := range []int{1, 1000, 1<<16 - 1} {
		if got := g.says(budget); got != refused {
			t.Errorf("P1001: %d states of a budget of %d: %.100s", 1<<16, budget, got)
		}
	}
	if got := alone("01", 2, chain(16, 0)).says(math.MaxInt); got != refused {
		t.Errorf("P1001: %d states: %.100s", 1<<17, got)
	}
}

// More states than could ever be made, told soon, however many rows of sets there are (P1, P1001).
func TestBudgetOfVeryMany(t *testing.T) {
	var l []api.Side
	for i := range api.MaxRules {
		l = append(l, chain(api.MaxPos-1-i, i%3))
	}
	g := alone("0101 0011 0110", 4, l...)
	g.sets = slices.Repeat(g.sets, 100000)
	for _, budget := range []int{0, 1, 1000, 100000, math.MaxInt} {
		if got := g.says(budget); got != refused {
			t.Errorf("P1001: of a budget of %d: %.100s", budget, got)
		}
	}
}

// Thrown sides: by how many states the words make (P1001).
func TestBudgetOfThrown(t *testing.T) {
	d := &dice{7}
	for range 300 {
		g := d.given(3, 4, d.of(4), d.of(4))
		if f, is := g.plainly(40); is {
			checkBudget(t, len(f.Next), g)
		}
	}
}
