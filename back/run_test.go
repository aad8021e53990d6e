package back

import (
	"fmt"
	"slices"
	"testing"

	"hyphen/api"
)

// checkRun holds Run against what is known.
func checkRun(t *testing.T, b api.Back, text []int, want string) {
	t.Helper()
	if got := fmt.Sprint(Run(b, text)); got != want {
		t.Errorf("P902: Run of %v over %v: %s, not %s", b, text, got, want)
	}
}

// Of no letters: the end alone, Out of state 0 (P902).
func TestRunOverNothing(t *testing.T) {
	checkRun(t, api.Back{Next: [][]int{{0}}, Out: []int{0}}, nil, "[0]")
	checkRun(t, api.Back{Next: [][]int{{0}}, Out: []int{0}}, []int{}, "[0]")
	checkRun(t, api.Back{Next: [][]int{{}}, Out: []int{0}}, nil, "[0]")
	// What another machine begins with is told all the same.
	checkRun(t, api.Back{Next: [][]int{{1}, {0}}, Out: []int{5, 9}}, nil, "[5]")
}

// From the end to the beginning: the last place's is state 0, each one ahead by Next of the letter behind it (P902).
func TestRunGoesFromTheEnd(t *testing.T) {
	// What the letter is, told by what comes behind it: any letter n from any state to n + 1.
	b := api.Back{Next: [][]int{{1, 2, 3}, {1, 2, 3}, {1, 2, 3}, {1, 2, 3}}, Out: []int{0, 1, 2, 3}}
	checkRun(t, b, []int{0}, "[1 0]")
	checkRun(t, b, []int{2}, "[3 0]")
	checkRun(t, b, []int{0, 1, 2}, "[1 2 3 0]")
	checkRun(t, b, []int{2, 2, 0, 1}, "[3 3 1 2 0]")
	// How many letters are ahead, three at most.
	b = api.Back{Next: [][]int{{1}, {2}, {3}, {3}}, Out: []int{0, 1, 2, 3}}
	checkRun(t, b, []int{0, 0, 0, 0, 0}, "[3 3 3 2 1 0]")
	// Out is told, not the state.
	b.Out = []int{0, 1, 0, 2}
	checkRun(t, b, []int{0, 0, 0, 0, 0}, "[2 2 2 0 1 0]")
	b.Out = []int{0, 0, 0, 0}
	checkRun(t, b, []int{0, 0}, "[0 0 0]")
	// a, then b: told where a is, by the b behind it.
	b, _, _ = Make(sides(t, "0 1; 0 -; - 0; 0>1; -"), grid("010 001"), 3, plenty)
	checkRun(t, b, []int{1, 2}, "[1 0 0]")
	checkRun(t, b, []int{2, 1}, "[0 0 0]")
	checkRun(t, b, []int{1, 1, 2, 0, 1, 2, 2, 1}, "[0 1 0 0 1 0 0 0 0]")
}

// A long text: one number more than letters (P902).
func TestRunOverLongText(t *testing.T) {
	b := api.Back{Next: [][]int{{1, 0}, {0, 1}}, Out: []int{0, 1}}
	d := &dice{11}
	var text, want []int
	state := 0
	want = append(want, 0)
	for range 1000000 {
		letter := d.of(2)
		text = append(text, letter)
		state = b.Next[state][letter]
		want = append(want, b.Out[state])
	}
	slices.Reverse(text)
	slices.Reverse(want)
	if got := Run(b, text); !slices.Equal(got, want) {
		t.Errorf("P902: %d numbers of %d letters, not as Next tells", len(got), len(text))
	}
}

// Thrown machines: step by step, each place from the end on anew (P902).
func TestRunByTheWords(t *testing.T) {
	d := &dice{13}
	for range 3000 {
		states, letters := 1+d.of(6), 1+d.of(4)
		var b api.Back
		for range states {
			var row []int
			for range letters {
				row = append(row, d.of(states))
			}
			b.Next, b.Out = append(b.Next, row), append(b.Out, d.of(5))
		}
		text := d.text(8, letters)
		outs := Run(b, text)
		if len(outs) != len(text)+1 {
			t.Fatalf("P902: Run of %v over %v: %v", b, text, outs)
		}
		for place, out := range outs {
			state := 0
			for at := len(text) - 1; at >= place; at-- {
				state = b.Next[state][text[at]]
			}
			if out != b.Out[state] {
				t.Fatalf("P902: Run of %v over %v: %v", b, text, outs)
			}
		}
	}
}
