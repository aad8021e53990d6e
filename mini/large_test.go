package mini

import (
	"slices"
	"testing"

	"hyphen/api"
)

// mostStates is as many as chapters 9 and 10 make.
const mostStates = 100000

// chain is states of which each leads to the next one, the last one to itself; that one alone has another Out: all others come apart from the end on, one by one.
func chain(size int) api.Back {
	var b api.Back
	for state := range size {
		b.Next, b.Out = append(b.Next, []int{min(state+1, size-1), 0}), append(b.Out, 0)
	}
	b.Out[size-1] = 1
	return b
}

// isCounting tells whether l is 0, 1, 2 and so on.
func isCounting(l []int, size int) bool {
	for i, n := range l {
		if n != i {
			return false
		}
	}
	return len(l) == size
}

// States that come apart only after very many letters: all stay, told soon (P1, P1101).
func TestLongChain(t *testing.T) {
	b := chain(mostStates)
	if c, names := Back(b); !isCounting(names, mostStates) || !slices.EqualFunc(c.Next, b.Next, slices.Equal) || !slices.Equal(c.Out, b.Out) {
		t.Errorf("P1101: of a chain %d states stay", len(c.Next))
	}
	f := saying(b, plain)
	if g, names := Fwd(f); !isCounting(names, mostStates) || !slices.EqualFunc(g.Next, b.Next, slices.Equal) || !slices.EqualFunc(g.Emit, f.Emit, slices.Equal) {
		t.Errorf("P1101: of a chain %d states stay", len(g.Next))
	}
}

// All alike, and two by two (P1, P1101).
func TestVeryManyAlike(t *testing.T) {
	b := chain(mostStates)
	b.Out[mostStates-1] = 0
	if c, names := Back(b); tellBack(c) != "0 0: 0" || len(names) != mostStates || slices.Max(names) > 0 || slices.Min(names) < 0 {
		t.Errorf("P1101: of states that are all alike %d stay", len(c.Next))
	}
	half := chain(mostStates / 2)
	d := &dice{47}
	twice := api.Back{Out: slices.Concat(half.Out, half.Out)}
	for _, next := range slices.Concat(half.Next, half.Next) {
		twice.Next = append(twice.Next, []int{next[0] + d.of(2)*len(half.Next), 0})
	}
	c, names := Back(twice)
	if !slices.EqualFunc(c.Next, half.Next, slices.Equal) || !slices.Equal(c.Out, half.Out) || len(names) != mostStates {
		t.Errorf("P1101: of states that are there twice %d stay, of %d", len(c.Next), mostStates)
	}
	for state, name := range names {
		if name >= 0 && name != state%len(half.Next) {
			t.Fatalf("P1101: state %d is %d", state, name)
		}
	}
}

// Many letters, thrown: few lead to where others do (P1, P1101).
func TestVeryManyThrown(t *testing.T) {
	d := &dice{53}
	b := d.machine(20000, 30, 2)
	blown := d.blown(b, 3, 5000)
	want, _ := Back(b)
	got, names := Back(blown)
	if !slices.EqualFunc(got.Next, want.Next, slices.Equal) || !slices.Equal(got.Out, want.Out) || len(names) != len(blown.Next) {
		t.Errorf("P1103: of %d states %d stay, not %d", len(blown.Next), len(got.Next), len(want.Next))
	}
}
