package back

import (
	"math"
	"testing"

	"hyphen/api"
)

// refused is what is told beside Budget: nothing (P4).
const refused = "{[] []} [] budget"

// checkBudget holds Make against how many states there are: as many may be, one less not (P901).
func checkBudget(t *testing.T, states int, l []api.Side, in [][]bool, letters int) {
	t.Helper()
	want := says(l, in, letters, plenty)
	if b, _, e := Make(l, in, letters, plenty); e != api.OK || len(b.Next) != states {
		t.Fatalf("P901: %d states, not %d, %v", len(b.Next), states, e)
	}
	for _, budget := range []int{states, states + 1, 2 * states, 100000, 100001, math.MaxInt} {
		if got := says(l, in, letters, budget); got != want {
			t.Errorf("P901: of a budget of %d: %s, not %s", budget, got, want)
		}
	}
	for _, budget := range []int{states - 1, states / 2, 1, 0, -1, -states, -100000, math.MinInt} {
		if got := says(l, in, letters, budget); budget < states && got != refused {
			t.Errorf("P901: of a budget of %d for %d states: %s", budget, states, got)
		}
	}
}

// As many states as there are, one less; 0, and below (P901).
func TestBudget(t *testing.T) {
	checkBudget(t, 1, nil, nil, 1)
	checkBudget(t, 1, nil, nil, 0)
	checkBudget(t, 1, sides(t, "; ; ; ; 0"), nil, 2)
	checkBudget(t, 1, sides(t, "0; 0; 0; ; 0"), grid("00"), 2)
	checkBudget(t, 2, sides(t, "0; 0; 0; ; -"), grid("01"), 2)
	// What is not alike only in what is live counts, too.
	checkBudget(t, 4, sides(t, "0 0 0; 0 - -; - - 0; 0>1 1>2; 0"), grid("01"), 2)
	checkBudget(t, 32, []api.Side{chain(4, 0)}, grid("01"), 2)
	checkBudget(t, 243, []api.Side{chain(4, 0), chain(4, 1)}, grid("010 001"), 3)
	// The last state met is the one too many.
	checkBudget(t, api.MaxPos+1, []api.Side{line(api.MaxPos)}, grid("01"), 2)
}

// digits tells sides that keep the last five letters of ten apart: 100000 states.
func digits() (l []api.Side, in [][]bool) {
	for set := range 9 {
		l = append(l, chain(4, set))
		in = append(in, make([]bool, 10))
		in[set][set+1] = true
	}
	return l, in
}

// A hundred thousand states may be, one more not, whatever the budget (P901).
func TestMostStates(t *testing.T) {
	l, in := digits()
	for _, budget := range []int{100000, 100001, math.MaxInt} {
		b, sets, e := Make(l, in, 10, budget)
		if e != api.OK || len(b.Next) != 100000 || len(b.Out) != 100000 || len(sets) != 10 {
			t.Errorf("P901: of a budget of %d: %d states, %d rows, %v", budget, len(b.Next), len(sets), e)
		}
	}
	if got := says(l, in, 10, 99999); got != refused {
		t.Errorf("P901: of a budget of 99999: %.100s", got)
	}
	// Whether any letter is there: 0's apart from the end.
	l = append(l, chain(0, -1))
	for _, budget := range []int{99999, 100000, 100001, 200000, math.MaxInt} {
		if got := says(l, in, 10, budget); got != refused {
			t.Errorf("P901: 100001 states of a budget of %d: %.100s", budget, got)
		}
	}
}

// More states than could ever be made, told soon (P1, P901).
func TestBudgetOfVeryMany(t *testing.T) {
	var l []api.Side
	for i := range api.MaxRules {
		l = append(l, chain(api.MaxPos-1-i, i%3))
	}
	for _, budget := range []int{0, 1, 1000, 100000, math.MaxInt} {
		if got := says(l, grid("0101 0011 0110"), 4, budget); got != refused {
			t.Errorf("P901: of a budget of %d: %.100s", budget, got)
		}
	}
}

// Thrown sides: by how many states the words make (P901).
func TestBudgetOfThrown(t *testing.T) {
	d := &dice{7}
	for range 300 {
		defs, letters := d.of(4), d.of(4)
		l, in := d.sides(3, 4, defs), d.grid(defs, letters)
		if p, is := plainly(l, in, letters, 40); is {
			checkBudget(t, len(p.texts), l, in, letters)
		}
	}
}
