package back

import (
	"slices"
	"strings"
	"testing"

	"hyphen/api"
)

// plenty is a budget that no machine of these tests needs.
const plenty = 1 << 40

// makes holds what Make tells of sides against what is known.
func makes(t *testing.T, in string, letters int, want string, l ...string) {
	t.Helper()
	if got := says(sides(t, l...), grid(in), letters, plenty); got != want {
		t.Errorf("P901: Make of %q, in %q: %s, not %s", l, in, got, want)
	}
}

// No sides: one state, in which none holds (P901).
func TestNoSides(t *testing.T) {
	makes(t, "", 1, "{[[0]] [0]} [[]] ok")
	makes(t, "", 3, "{[[0 0 0]] [0]} [[]] ok")
	makes(t, "01 11", 2, "{[[0 0]] [0]} [[]] ok")
	makes(t, "", 0, "{[[]] [0]} [[]] ok")
}

// No letters: the end of a text alone, whatever sides there are (P901).
func TestNoLetters(t *testing.T) {
	makes(t, "", 0, "{[[]] [0]} [[false]] ok", ".; 0; 0; ; -")
	makes(t, "", 0, "{[[]] [0]} [[true false]] ok", ".; 0; 0; 0>0; 0", ". .; 0 -; - 0; 0>1; -")
}

// A side without positions holds everywhere, or nowhere: as None is (P901, W3).
func TestNoPositions(t *testing.T) {
	makes(t, "", 2, "{[[0 0]] [0]} [[false]] ok", "; ; ; ; -")
	makes(t, "", 2, "{[[0 0]] [0]} [[true]] ok", "; ; ; ; 0")
	makes(t, "", 2, "{[[0 0]] [0]} [[true]] ok", "; ; ; ; 1152921504606846975")
	makes(t, "", 2, "{[[0 0]] [0]} [[false]] ok", "; ; ; ; 1152921504606846977")
	makes(t, "", 2, "{[[0 0]] [0]} [[false true false true]] ok", "; ; ; ; -", "; ; ; ; 7", "; ; ; ; -", "; ; ; ; 0")
	// Beside one with positions, on either side of it.
	makes(t, "01", 2, "{[[0 1] [0 1]] [0 1]} [[false false true] [false true true]] ok", "; ; ; ; -", "0; 0; 0; ; -", "; ; ; ; 0")
	// None, of one with positions: it holds where nothing is live, too.
	makes(t, "01", 2, "{[[0 1] [0 1]] [0 0]} [[true]] ok", "0; 0; 0; ; 0")
	makes(t, "01", 2, "{[[0 1] [0 1]] [0 0]} [[true]] ok", "0; -; 0; ; 4")
}

// A position is live where the letter is of it: one of a set, or of any letter (P901).
func TestLettersOfPositions(t *testing.T) {
	makes(t, "010", 3, "{[[0 1 0] [0 1 0]] [0 1]} [[false] [true]] ok", "0; 0; 0; ; -")
	makes(t, "010 101", 3, "{[[1 0 1] [1 0 1]] [0 1]} [[false] [true]] ok", "1; 0; 0; ; -")
	makes(t, "010", 3, "{[[1 1 1] [1 1 1]] [0 1]} [[false] [true]] ok", ".; 0; 0; ; -")
	makes(t, "000", 3, "{[[0 0 0]] [0]} [[false]] ok", "0; 0; 0; ; -")
	makes(t, "", 1, "{[[1] [1]] [0 1]} [[false] [true]] ok", ".; 0; 0; ; -")
	// Any, beside sets: in one side, in two.
	makes(t, "010", 3, "{[[1 2 1] [1 2 1] [1 2 1]] [0 1 1]} [[false] [true]] ok", "0 .; 0 0; 0 0; ; -")
	makes(t, "010", 3, "{[[1 2 1] [1 2 1] [1 2 1]] [0 1 2]} [[false false] [false true] [true true]] ok", "0; 0; 0; ; -", ".; 0; 0; ; -")
	makes(t, "010", 3, "{[[1 2 1] [1 2 1] [1 2 1]] [0 1 2]} [[false false] [true false] [true true]] ok", ".; 0; 0; ; -", "0; 0; 0; ; -")
	// A set, then any: what is behind must be there.
	makes(t, "01", 2, "{[[1 1] [1 2] [1 2]] [0 0 1]} [[false] [true]] ok", "0 .; 0 -; - 0; 0>1; -")
	// Any, then a set.
	makes(t, "01", 2, "{[[0 1] [2 3] [0 1] [2 3]] [0 0 1 1]} [[false] [true]] ok", ". 0; 0 -; - 0; 0>1; -")
}

// An end, or an Arc to a live one: by the next place, from the one to the other (P901).
func TestEndsAndArcs(t *testing.T) {
	// Two sets in a row; the Arc leads to the second.
	makes(t, "010 001", 3, "{[[0 0 1] [0 2 1] [0 0 1]] [0 0 1]} [[false] [true]] ok", "0 1; 0 -; - 0; 0>1; -")
	makes(t, "010 001", 3, "{[[0 1 0] [0 1 2] [0 1 0]] [0 0 1]} [[false] [true]] ok", "0 1; - 0; 0 -; 1>0; -")
	// No Arc: the first one never is.
	makes(t, "010 001", 3, "{[[0 0 1] [0 0 1]] [0 0]} [[false]] ok", "0 1; 0 -; - 0; ; -")
	// The Arc the other way about: just the second one is.
	makes(t, "010 001", 3, "{[[0 0 1] [0 0 1]] [0 0]} [[false]] ok", "0 1; 0 -; - 0; 1>0; -")
	// Both an end and an Arc; both First.
	makes(t, "010 001", 3, "{[[0 1 2] [0 1 2] [0 1 2]] [0 1 1]} [[false] [true]] ok", "0 1; 0 0; 0 0; 0>1; -")
	// Any cost of an end, of an Arc, of a First counts; Inf does not (W3).
	makes(t, "01", 2, "{[[0 1] [0 1]] [0 1]} [[false] [true]] ok", "0; 1152921504606846975; 1152921504606846975; ; -")
	makes(t, "01", 2, "{[[0 1] [0 1]] [0 0]} [[false]] ok", "0; 1152921504606846977; 0; ; -")
	makes(t, "01", 2, "{[[0 0]] [0]} [[false]] ok", "0; 0; 1152921504606846977; ; -")
}

// Ends that are Inf everywhere: nothing is ever live, whatever Arcs there are (P901).
func TestEndsThatAreInf(t *testing.T) {
	makes(t, "01", 2, "{[[0 0]] [0]} [[false]] ok", "0; 0; -; ; -")
	makes(t, "01", 2, "{[[0 0]] [0]} [[false]] ok", ". 0 .; 0 0 0; - - -; 0>0 0>1 0>2 1>0 1>1 1>2 2>0 2>1 2>2; -")
	makes(t, "01", 2, "{[[0 0]] [0]} [[true]] ok", ".; 0; -; 0>0; 0")
	makes(t, "01", 2, "{[[0 1] [0 1]] [0 1]} [[false false] [false true]] ok", ".; 0; -; 0>0; -", "0; 0; 0; ; -")
}

// Arcs from a position to itself: live as long as its letters go on, from an end on (P901).
func TestArcsToItself(t *testing.T) {
	makes(t, "01", 2, "{[[0 1] [0 1]] [0 1]} [[false] [true]] ok", "0; 0; 0; 0>0; -")
	makes(t, "01", 2, "{[[0 0]] [0]} [[false]] ok", "0; 0; -; 0>0; -")
	// a a* b: a's live ahead of b, and on, until another letter comes.
	makes(t, "010 001", 3, "{[[0 0 1] [0 2 1] [0 2 1]] [0 0 1]} [[false] [true]] ok", "0 1; 0 -; - 0; 0>0 0>1; -")
	makes(t, "010 001", 3, "{[[0 0 1] [0 2 1] [0 2 1]] [0 1 1]} [[false] [true]] ok", "0 1; 0 0; - 0; 0>0 0>1; -")
	makes(t, "010", 3, "{[[0 1 0] [2 3 2] [2 3 2] [2 3 2]] [0 0 1 1]} [[false] [true]] ok", ". 0; 0 -; - 0; 0>0 0>1; -")
}

// States by all positions, of First or not; rows of sets by which sides hold alone (P901).
func TestStatesThatSayTheSame(t *testing.T) {
	// a a a, at the text's next letters: four states, one row.
	makes(t, "01", 2, "{[[0 1] [0 2] [0 3] [0 3]] [0 0 0 0]} [[true]] ok", "0 0 0; 0 - -; - - 0; 0>1 1>2; 0")
	makes(t, "01", 2, "{[[0 1] [0 2] [0 3] [0 3]] [0 0 0 0]} [[false]] ok", "0 0 0; - - -; - - 0; 0>1 1>2; -")
	// The same side twice: no more states, both hold.
	makes(t, "01", 2, "{[[0 1] [0 2] [0 2]] [0 0 1]} [[false false] [true true]] ok", "0 0; 0 -; - 0; 0>1; -", "0 0; 0 -; - 0; 0>1; -")
	// Arcs are each side's own.
	makes(t, "01", 2, "{[[0 1] [0 2] [0 2]] [0 1 2]} [[false false] [false true] [true true]] ok", "0 0; 0 -; - 0; 0>1; -", "0 0; 0 -; 0 -; 1>0; -")
}

// States and rows are numbered as they are first met, state by state, letter by letter (P901).
func TestNumbers(t *testing.T) {
	// The last letter's state is met last; each rules a side.
	makes(t, "100 010 001", 3, "{[[1 2 3] [1 2 3] [1 2 3] [1 2 3]] [0 1 2 3]} [[false false false] [true false false] [false true false] [false false true]] ok", "0; 0; 0; ; -", "1; 0; 0; ; -", "2; 0; 0; ; -")
	makes(t, "001 010 100", 3, "{[[1 2 3] [1 2 3] [1 2 3] [1 2 3]] [0 1 2 3]} [[false false false] [false false true] [false true false] [true false false]] ok", "0; 0; 0; ; -", "1; 0; 0; ; -", "2; 0; 0; ; -")
	// Rows in the order of states: one that comes again has its first number.
	makes(t, "100 010 001", 3, "{[[1 2 3] [1 2 3] [1 2 3] [1 2 3]] [0 1 0 2]} [[false false false] [true false false] [false false true]] ok", "0; 0; 0; ; -", "1; -; 0; ; -", "2; 0; 0; ; -")
	makes(t, "01 10", 2, "{[[1 0] [1 2] [1 0]] [0 1 2]} [[false false] [false true] [true false]] ok", "0 1; 0 -; - 0; 0>1; -", "1; 0; 0; ; -")
	// State by state, not as deep as may be: those of state 0 come first.
	makes(t, "100 010 001", 3, "{[[0 0 1] [0 2 1] [3 0 1] [0 0 1]] [0 0 0 1]} [[false] [true]] ok", "0 1 2; 0 - -; - - 0; 0>1 1>2; -")
}

// chain tells a side of so many positions of any letter, then one of a set: what comes so many letters ahead.
func chain(size, set int) api.Side {
	s := api.Side{None: api.Inf}
	for at := range size + 1 {
		s.Sets, s.First, s.Ends = append(s.Sets, -1), append(s.First, api.Inf), append(s.Ends, api.Inf)
		if at < size {
			s.Arcs = append(s.Arcs, api.Arc{From: at, To: at + 1})
		}
	}
	s.Sets[size], s.First[0], s.Ends[size] = set, 0, 0
	return s
}

// line tells a side of so many positions, one of a set behind another.
func line(size int) api.Side {
	s := chain(size-1, 0)
	for at := range s.Sets {
		s.Sets[at] = 0
	}
	return s
}

// As many positions as a side may have, in as many sides as there may be: each is told from the others (P901).
func TestManyPositions(t *testing.T) {
	var l []api.Side
	for i := range api.MaxRules {
		l = append(l, line(api.MaxPos-i))
	}
	b, sets, e := Make(l, grid("01"), 2, plenty)
	if e != api.OK || len(b.Next) != api.MaxPos+1 || len(sets) != api.MaxRules+1 {
		t.Fatalf("P901: %d states, %d rows, %v", len(b.Next), len(sets), e)
	}
	text := slices.Repeat([]int{1}, api.MaxPos+5)
	for ahead, out := range Run(b, text) {
		for i, is := range sets[out] {
			if want := len(text)-ahead >= api.MaxPos-i; is != want {
				t.Fatalf("P901: side %d, %d letters ahead of the end: %v", i, len(text)-ahead, is)
			}
		}
	}
}

// turned tells s with its positions the other way about.
func turned(s api.Side) api.Side {
	z := api.Side{Sets: slices.Clone(s.Sets), First: slices.Clone(s.First), Ends: slices.Clone(s.Ends), None: s.None}
	slices.Reverse(z.Sets)
	slices.Reverse(z.First)
	slices.Reverse(z.Ends)
	last := len(s.Sets) - 1
	for _, a := range slices.Backward(s.Arcs) {
		z.Arcs = append(z.Arcs, api.Arc{From: last - a.From, To: last - a.To, W: a.W})
	}
	return z
}

// Wherever among many positions those of First, of Ends stand, the machine is the same (P901).
func TestPositionsTheOtherWayAbout(t *testing.T) {
	for _, size := range []int{1, 2, 63, 64, 65, 66, 119, api.MaxPos} {
		l := []api.Side{line(size), chain(0, -1), line(size)}
		want := says(l, grid("01"), 2, plenty)
		for i := range l {
			l[i] = turned(l[i])
			if got := says(l, grid("01"), 2, plenty); got != want {
				t.Errorf("P901: of %d positions, side %d turned: %s, not %s", size, i, got, want)
			}
		}
	}
}

// Eighty sides, so that a row of them is long: one each of what comes, letter by letter (P901).
func TestManySides(t *testing.T) {
	var l []api.Side
	var in []string
	for i := range 80 {
		l = append(l, chain(0, i))
		in = append(in, strings.Repeat("0", i)+"1"+strings.Repeat("0", 79-i))
	}
	b, sets, e := Make(l, grid(strings.Join(in, " ")), 80, plenty)
	if e != api.OK || len(b.Next) != 81 || len(sets) != 81 {
		t.Fatalf("P901: %d states, %d rows, %v", len(b.Next), len(sets), e)
	}
	for at, out := range b.Out {
		for i, is := range sets[out] {
			if out != at || b.Next[at][i] != i+1 || is != (i+1 == at) {
				t.Fatalf("P901: state %d: %d, %v, side %d: %v", at, out, b.Next[at], i, is)
			}
		}
	}
}
