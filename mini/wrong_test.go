package mini

import (
	"math"
	"slices"
	"testing"

	"hyphen/api"
)

// wild is numbers that fit nowhere, and some that do.
func wild() []int {
	return []int{math.MinInt, -api.Inf, -2, -1, 0, 1, 2, 3, 63, 64, api.Last, api.Inf, math.MaxInt}
}

// refusedBack holds Back of what is no machine: it tells nothing, and leaves it as it was (P1, P2, P8, P9).
func refusedBack(t *testing.T, b api.Back) {
	t.Helper()
	was := toldBack(b, nil)
	if c, names := Back(b); len(c.Next)+len(c.Out)+len(names) > 0 {
		t.Errorf("P9: Back of %v: %v, names %v", b, c, names)
	}
	if now := toldBack(b, nil); now != was {
		t.Errorf("P2: %s left %s", was, now)
	}
}

// refusedFwd holds Fwd, and Pick, so.
func refusedFwd(t *testing.T, f api.Fwd) {
	t.Helper()
	was := toldFwd(f, nil)
	if g, names := Fwd(f); len(g.Next)+len(g.Emit)+len(names) > 0 {
		t.Errorf("P9: Fwd of %v: %v, names %v", f, g, names)
	}
	for _, labels := range [][]int{nil, {0}, {0, 1}, wild()} {
		if g := Pick(f, labels); len(g.Next)+len(g.Emit) > 0 {
			t.Errorf("P9: Pick of %v, %v: %v", f, labels, g)
		}
	}
	if now := toldFwd(f, nil); now != was {
		t.Errorf("P2: %s left %s", was, now)
	}
}

// No states, or not as many of the one as of the other (P1, P8, P9).
func TestListsThatDoNotFit(t *testing.T) {
	nexts := [][][]int{nil, {}, {{0}}, {{0}, {1}}, {{0}, {1}, {2}}, {nil}, {nil, nil, nil}}
	for _, next := range nexts {
		for size := range 5 {
			if size == len(next) && size > 0 {
				continue
			}
			refusedBack(t, api.Back{Next: next, Out: make([]int, size)})
			refusedFwd(t, api.Fwd{Next: next, Emit: make([][]api.Vec, size)})
			refusedFwd(t, api.Fwd{Next: next, Emit: slices.Repeat([][]api.Vec{{{}, {}}}, size)})
		}
	}
}

// states are three that are a machine with any Outs.
func states() [][]int {
	return [][]int{{1, 1}, {0, 0}, {2, 0}}
}

// Not as many letters in each state, whether 0 leads there or not (P1, P8, P9).
func TestLettersThatDoNotFit(t *testing.T) {
	for state := range 3 {
		for _, row := range [][]int{nil, {}, {0}, {0, 1, 2}, make([]int, 1000)} {
			next := states()
			next[state] = row
			refusedBack(t, api.Back{Next: next, Out: []int{1, 2, 3}})
			refusedFwd(t, api.Fwd{Next: next, Emit: [][]api.Vec{{{1}}, {{2}}, {{3}}}})
		}
	}
}

// A state that leads to none, whether 0 leads there or not (P1, P8, P9).
func TestLeadingToNoState(t *testing.T) {
	for state := range 3 {
		for letter := range 2 {
			for _, to := range wild() {
				if to >= 0 && to < 3 {
					continue
				}
				next := states()
				next[state][letter] = to
				refusedBack(t, api.Back{Next: next, Out: []int{1, 2, 3}})
				refusedFwd(t, api.Fwd{Next: next, Emit: [][]api.Vec{{{1}}, {{2}}, {{3}}}})
			}
		}
	}
}

// An Out below 0 (P1, P8, P9).
func TestOutsBelowNothing(t *testing.T) {
	for state := range 3 {
		for _, out := range wild() {
			outs := []int{1, 1, 1}
			outs[state] = out
			b := api.Back{Next: states(), Out: outs}
			if out < 0 {
				refusedBack(t, b)
			} else if c, names := Back(b); len(c.Next) == 0 || len(names) != 3 {
				t.Errorf("P1101: Back of %v: %v, names %v", b, c, names)
			}
		}
	}
}

// Not as many Vecs in each Emit (P1, P8, P9).
func TestVecsThatDoNotFit(t *testing.T) {
	for state := range 3 {
		for _, size := range []int{0, 1, 3, 100} {
			f := api.Fwd{Next: states(), Emit: slices.Repeat([][]api.Vec{{{1}, {2}}}, 3)}
			f.Emit[state] = make([]api.Vec, size)
			refusedFwd(t, f)
		}
	}
}

// Labels that are no places of Emit, among others, too (P1, P8, P9).
func TestLabelsThatAreNoPlaces(t *testing.T) {
	for many := range 3 {
		f := api.Fwd{Next: states(), Emit: slices.Repeat([][]api.Vec{make([]api.Vec, many)}, 3)}
		for _, label := range wild() {
			if label >= 0 && label < many {
				continue
			}
			for _, labels := range [][]int{{label}, {label, 0}, {0, label}, {0, 1, label}} {
				was := slices.Clone(labels)
				if g := Pick(f, labels); len(g.Next)+len(g.Emit) > 0 {
					t.Errorf("P9: Pick of %d Vecs, %v: %v", many, labels, g)
				}
				if !slices.Equal(labels, was) {
					t.Errorf("P2: %v left %v", was, labels)
				}
			}
		}
	}
}
