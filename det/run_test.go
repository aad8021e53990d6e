package det

import (
	"slices"
	"testing"

	"hyphen/api"
)

// vecs tells costs of line alone.
func vecs(l ...int) []api.Vec {
	var all []api.Vec
	for _, n := range l {
		all = append(all, api.Vec{n, api.Inf, api.Inf})
	}
	return all
}

// checkRun holds Run against what is known.
func checkRun(t *testing.T, f api.Fwd, text, labels []int, want string) {
	t.Helper()
	if got := tellVecs(Run(f, text, labels)); got != want {
		t.Errorf("P1002: Run of %v over %v, %v: %s, not %s", f, text, labels, got, want)
	}
}

// Of no letters: place 0 alone, of state 0 what its label tells (P1002).
func TestRunOverNothing(t *testing.T) {
	checkRun(t, api.Fwd{Next: [][]int{{0}}, Emit: [][]api.Vec{vecs(7)}}, nil, []int{0}, "7 - -")
	checkRun(t, api.Fwd{Next: [][]int{{0}}, Emit: [][]api.Vec{vecs(7, 8, 9)}}, []int{}, []int{2}, "9 - -")
	checkRun(t, api.Fwd{Next: [][]int{{}}, Emit: [][]api.Vec{vecs(7, 8, 9)}}, nil, []int{1}, "8 - -")
	checkRun(t, api.Fwd{Next: [][]int{{1}, {0}}, Emit: [][]api.Vec{vecs(1, 2), vecs(3, 4)}}, nil, []int{1}, "2 - -")
}

// From the beginning on: place 0's is state 0, each next one by Next of the letter between (P1002).
func TestRunGoesFromTheBeginning(t *testing.T) {
	// What the letter ahead is: any letter n from any state to n + 1.
	f := api.Fwd{Next: [][]int{{1, 2, 3}, {1, 2, 3}, {1, 2, 3}, {1, 2, 3}}, Emit: [][]api.Vec{vecs(0), vecs(1), vecs(2), vecs(3)}}
	checkRun(t, f, []int{0}, []int{0, 0}, "0 - -, 1 - -")
	checkRun(t, f, []int{2}, []int{0, 0}, "0 - -, 3 - -")
	checkRun(t, f, []int{0, 1, 2}, []int{0, 0, 0, 0}, "0 - -, 1 - -, 2 - -, 3 - -")
	checkRun(t, f, []int{2, 2, 0, 1}, []int{0, 0, 0, 0, 0}, "0 - -, 3 - -, 3 - -, 1 - -, 2 - -")
	// How many letters there were, two at most; of each label another Vec.
	f = api.Fwd{Next: [][]int{{1}, {2}, {2}}, Emit: [][]api.Vec{vecs(0, 10), vecs(1, 11), vecs(2, 12)}}
	checkRun(t, f, []int{0, 0, 0}, []int{0, 0, 0, 0}, "0 - -, 1 - -, 2 - -, 2 - -")
	checkRun(t, f, []int{0, 0, 0}, []int{1, 1, 1, 1}, "10 - -, 11 - -, 12 - -, 12 - -")
	checkRun(t, f, []int{0, 0, 0}, []int{1, 0, 0, 1}, "10 - -, 1 - -, 2 - -, 12 - -")
	checkRun(t, f, []int{0, 0, 0}, []int{0, 1, 1, 0}, "0 - -, 11 - -, 12 - -, 2 - -")
	// All three categories of a Vec are told.
	checkRun(t, api.Fwd{Next: [][]int{{0}}, Emit: [][]api.Vec{{{5, 6, 7}, {api.Inf, 0, 9}}}}, []int{0}, []int{1, 0}, "- 0 9, 5 6 7")
	// a, then b: told behind that b, where the row of sets lets the Rule count.
	f, _ = reads(t, "010 001", 3, "0 1", "hyphen 2 / 0 1; 0 -; - 0; 0>1; -").made(plenty)
	checkRun(t, f, []int{1, 2}, []int{1, 1, 1}, "- - -, - - -, - 2 -")
	checkRun(t, f, []int{1, 2}, []int{1, 1, 0}, "- - -, - - -, - - -")
	checkRun(t, f, []int{2, 1}, []int{1, 1, 1}, "- - -, - - -, - - -")
	checkRun(t, f, []int{1, 1, 2, 0, 1, 2, 2}, []int{0, 0, 0, 1, 0, 0, 1, 1}, "- - -, - - -, - - -, - 2 -, - - -, - - -, - 2 -, - - -")
}

// A long text: one Vec more than letters (P1002).
func TestRunOverLongText(t *testing.T) {
	f := api.Fwd{Next: [][]int{{1, 0}, {0, 1}}, Emit: [][]api.Vec{vecs(0, 1), vecs(2, 3)}}
	d := &dice{11}
	var text, labels []int
	var want []api.Vec
	state := 0
	for range 1000000 {
		letter, label := d.of(2), d.of(2)
		text, labels, want = append(text, letter), append(labels, label), append(want, f.Emit[state][label])
		state = f.Next[state][letter]
	}
	labels, want = append(labels, 1), append(want, f.Emit[state][1])
	if got := Run(f, text, labels); !slices.Equal(got, want) {
		t.Errorf("P1002: %d Vecs of %d letters, not as Next and Emit tell", len(got), len(text))
	}
}

// fwd throws a machine.
func (d *dice) fwd(states, letters, labels int) api.Fwd {
	var f api.Fwd
	for range states {
		var row []int
		for range letters {
			row = append(row, d.of(states))
		}
		var l []api.Vec
		for range labels {
			l = append(l, api.Vec{d.of(9), pick(d, d.of(9), api.Inf), d.of(9)})
		}
		f.Next, f.Emit = append(f.Next, row), append(f.Emit, l)
	}
	return f
}

// Thrown machines: each place from the beginning on anew (P1002).
func TestRunByTheWords(t *testing.T) {
	d := &dice{13}
	for range 3000 {
		letters, many := 1+d.of(4), 1+d.of(4)
		f := d.fwd(1+d.of(6), letters, many)
		text := d.text(8, letters)
		labels := d.labels(text, many)
		got := Run(f, text, labels)
		if len(got) != len(text)+1 {
			t.Fatalf("P1002: Run of %v over %v: %v", f, text, got)
		}
		for place, v := range got {
			state := 0
			for _, letter := range text[:place] {
				state = f.Next[state][letter]
			}
			if v != f.Emit[state][labels[place]] {
				t.Fatalf("P1002: Run of %v over %v, %v: %v", f, text, labels, got)
			}
		}
	}
}
