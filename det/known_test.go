package det

import (
	"fmt"
	"slices"
	"strings"
	"testing"

	"hyphen/api"
)

// makes holds what Make tells of Rules against what is known.
func makes(t *testing.T, in string, letters int, sets, want string, rules ...string) {
	t.Helper()
	if got := reads(t, in, letters, sets, rules...).says(plenty); got != want {
		t.Errorf("P1001: Make of %q, in %q, of %d letters, sets %q: %s, not %s", rules, in, letters, sets, got, want)
	}
}

// No rules: one state, in which nothing may be broken (P1001).
func TestNoRules(t *testing.T) {
	makes(t, "", 1, "()", "0: - - -")
	makes(t, "", 3, "()", "0 0 0: - - -")
	makes(t, "", 3, "", "0 0 0: ")
	makes(t, "01 11", 2, "() ()", "0 0: - - -, - - -")
	makes(t, "", 0, "", ": ")
	makes(t, "", 0, "()", ": - - -")
}

// No letters: place 0 alone, whatever Rules there are (P1001).
func TestNoLetters(t *testing.T) {
	makes(t, "", 0, "1 0", ": - - -, - - -", "line 4 / .; 0; 0; ; -")
	makes(t, "", 0, "10 11", ": 5 - -, 5 3 -", "line 4 / .; 0; 0; 0>0; 1", "hyphen 0 / . .; 0 -; - 0; 0>1:2; 3")
}

// Rows of sets: none, one in which no Rule holds, one in which all do, and any; of each a Vec (P1001).
func TestRowsOfSets(t *testing.T) {
	two := []string{"line 4 / 0; 0; 0; ; -", "line 6 / .; 0; 1; ; 0"}
	makes(t, "01", 2, "", "1 2: ; 1 2: ; 1 2: ", two...)
	makes(t, "01", 2, "00", "1 2: - - -; 1 2: - - -; 1 2: - - -", two...)
	makes(t, "01", 2, "11", "1 2: 6 - -; 1 2: 6 - -; 1 2: 4 - -", two...)
	makes(t, "01", 2, "10", "1 2: - - -; 1 2: - - -; 1 2: 4 - -", two...)
	makes(t, "01", 2, "01", "1 2: 6 - -; 1 2: 6 - -; 1 2: 6 - -", two...)
	makes(t, "01", 2, "01 10 00 11 10", "1 2: 6 - -, - - -, - - -, 6 - -, - - -; 1 2: 6 - -, - - -, - - -, 6 - -, - - -; 1 2: 6 - -, 4 - -, - - -, 4 - -, 4 - -", two...)
	// States are there whether a row tells them apart or not.
	makes(t, "01", 2, "0", "0 1: - - -; 0 1: - - -", "line 4 / 0; 0; 0; ; -")
}

// A side without positions costs the same everywhere: None, and the Rule's Cost (P1001, W3).
func TestNoPositions(t *testing.T) {
	makes(t, "", 2, "1 0", "0 0: - - -, - - -", "line 4 / ; ; ; ; -")
	makes(t, "", 2, "1 0", "0 0: 4 - -, - - -", "line 4 / ; ; ; ; 0")
	makes(t, "", 2, "1", "0 0: 7 - -", "line 4 / ; ; ; ; 3")
	makes(t, "", 2, "1", "0 0: 1152921504606846975 - -", "line 4 / ; ; ; ; 1152921504606846971")
	makes(t, "", 2, "1", "0 0: - - -", "line 4 / ; ; ; ; 1152921504606846972")
	makes(t, "", 2, "1", "0 0: - - -", "line 4 / ; ; ; ; 9000000000000000000")
	// Beside one with positions, on either side of it.
	makes(t, "01", 2, "111 110", "0 1: 9 - 5, 9 - -; 0 1: 9 2 5, 9 2 -", "line 4 / ; ; ; ; 5", "hyphen 2 / 0; 0; 0; ; -", "emergency 5 / ; ; ; ; 0")
	// None, of one with positions: where no way leads to one, and where it is the least.
	makes(t, "01", 2, "1", "0 1: 7 - -; 0 1: 6 - -", "line 4 / 0; 2; 0; ; 3")
	makes(t, "01", 2, "1", "0 1: 5 - -; 0 1: 5 - -", "line 4 / 0; 2; 0; ; 1")
}

// A way leads to a position where the letter ahead is of it: one of a set, or of any letter (P1001).
func TestLettersOfPositions(t *testing.T) {
	makes(t, "010", 3, "1", "0 1 0: - - -; 0 1 0: 4 - -", "line 4 / 0; 0; 0; ; -")
	makes(t, "010 101", 3, "1", "1 0 1: - - -; 1 0 1: 4 - -", "line 4 / 1; 0; 0; ; -")
	makes(t, "010", 3, "1", "1 1 1: - - -; 1 1 1: 4 - -", "line 4 / .; 0; 0; ; -")
	makes(t, "000", 3, "1", "0 0 0: - - -", "line 4 / 0; 0; 0; ; -")
	makes(t, "", 1, "1", "1: - - -; 1: 4 - -", "line 4 / .; 0; 0; ; -")
	// Any, beside sets: in one side, in two.
	makes(t, "010", 3, "1", "1 2 1: - - -; 1 2 1: 8 - -; 1 2 1: 5 - -", "line 4 / 0 .; 0 0; 1 4; ; -")
	makes(t, "010", 3, "11", "1 2 1: - - -; 1 2 1: - 3 -; 1 2 1: 4 3 -", "line 4 / 0; 0; 0; ; -", "hyphen 3 / .; 0; 0; ; -")
	makes(t, "010", 3, "11", "1 2 1: - - -; 1 2 1: - 3 -; 1 2 1: 4 3 -", "hyphen 3 / .; 0; 0; ; -", "line 4 / 0; 0; 0; ; -")
	// Sets that overlap: a letter is of both, of one, of none.
	makes(t, "0110 0011", 4, "11", "0 1 2 3: - - -; 0 1 2 3: 1 - -; 0 1 2 3: 1 2 -; 0 1 2 3: - 2 -", "line 1 / 0; 0; 0; ; -", "hyphen 2 / 1; 0; 0; ; -")
	// A set, then any.
	makes(t, "01", 2, "1", "0 1: - - -; 2 3: - - -; 0 1: 4 - -; 2 3: 4 - -", "line 4 / 0 .; 0 -; - 0; 0>1; -")
	// Any, then a set: what was ahead must be there.
	makes(t, "01", 2, "1", "1 1: - - -; 1 2: - - -; 1 2: 4 - -", "line 4 / . 0; 0 -; - 0; 0>1; -")
}

// First, where it begins there, or an Arc from one that was come to: by the next letter, from the one to the other (P1001).
func TestFirstAndArcs(t *testing.T) {
	// Two sets in a row; the Arc leads to the second. All costs count.
	makes(t, "010 001", 3, "1", "0 1 0: - - -; 0 1 2: - - -; 0 1 0: 15 - -", "line 1 / 0 1; 2 -; - 8; 0>1:4; -")
	makes(t, "010 001", 3, "1", "0 0 1: - - -; 0 2 1: - - -; 0 0 1: 15 - -", "line 1 / 0 1; - 2; 8 -; 1>0:4; -")
	// No Arc: the second one never is come to.
	makes(t, "010 001", 3, "1", "0 1 0: - - -; 0 1 0: - - -", "line 1 / 0 1; 2 -; - 8; ; -")
	// The Arc the other way about.
	makes(t, "010 001", 3, "1", "0 1 0: - - -; 0 1 0: - - -", "line 1 / 0 1; 2 -; - 8; 1>0; -")
	// An Arc that costs Inf, or that together with a First does (W3).
	makes(t, "010 001", 3, "1", "0 1 0: - - -; 0 1 0: - - -", "line 1 / 0 1; 2 -; - 8; 0>1:-; -")
	makes(t, "010 001", 3, "1", "0 1 0: - - -; 0 1 0: - - -", "line 1 / 0 1; 1 -; - 0; 0>1:1152921504606846975; -")
	makes(t, "010 001", 3, "1", "0 1 0: - - -; 0 1 2: - - -; 0 1 0: 1152921504606846975 - -", "line 0 / 0 1; 0 -; - 0; 0>1:1152921504606846975; -")
	// A way that begins anew, beside one that goes on.
	makes(t, "01", 2, "1", "0 1: - - -; 0 2: 11 - -; 0 2: 4 - -", "line 1 / 0 0; 2 -; 8 0; 0>1:1; -")
}

// A First that is Inf at all positions: no way ever leads anywhere (P1001).
func TestFirstThatIsInf(t *testing.T) {
	makes(t, "01", 2, "1 0", "0 0: - - -, - - -", "line 4 / 0; -; 0; ; -")
	makes(t, "01", 2, "1", "0 0: - - -", "line 4 / . 0 .; - - -; 0 0 0; 0>0 0>1 0>2 1>0 1>1 1>2 2>0 2>1 2>2; -")
	makes(t, "01", 2, "1", "0 0: - - -", "line 4 / . 0; 1152921504606846977 9000000000000000000; 0 0; 0>0 0>1; -")
	makes(t, "01", 2, "1", "0 0: - 6 -", "hyphen 4 / .; -; 0; 0>0; 2")
	makes(t, "01", 2, "11", "0 1: - - -; 0 1: - - 1", "line 4 / .; -; 0; 0>0; -", "emergency 1 / 0; 0; 0; ; -")
}

// Ends that are Inf everywhere: nothing is told but None; the states are there all the same (P1001).
func TestEndsThatAreInf(t *testing.T) {
	makes(t, "01", 2, "1", "0 1: - - -; 0 1: - - -", "line 4 / 0; 0; -; ; -")
	makes(t, "01", 2, "1", "0 1: 6 - -; 0 2: 6 - -; 0 2: 6 - -", "line 4 / 0 0; 0 -; - -; 0>1:3; 2")
	makes(t, "01", 2, "1", "0 1: - - -; 0 1: - - -", "line 4 / 0; 0; 1152921504606846977; ; -")
}

// Arcs from a position to itself that cost nothing: it is come to as long as its letters go on, at the least cost so far (P1001).
func TestArcsToItself(t *testing.T) {
	makes(t, "01", 2, "1", "0 1: - - -; 0 1: 6 - -", "line 4 / 0; 2; 0; 0>0; -")
	// a, then any: ever after.
	makes(t, "01", 2, "1", "0 1: - - -; 2 3: - - -; 2 3: 4 - -; 2 3: 4 - -", "line 4 / 0 .; 0 -; - 0; 0>1 1>1; -")
	// a a* b.
	makes(t, "010 001", 3, "1", "0 1 0: - - -; 0 1 2: - - -; 0 1 0: 9 - -", "line 4 / 0 1; 2 -; - 0; 0>0 0>1:3; -")
	// A cheap way is kept while a dear one begins anew: b, then as many a as there are.
	makes(t, "010 001", 3, "1", "0 1 2: - - -; 0 1 2: 9 - -; 0 3 2: - - -; 0 3 2: 4 - -", "line 4 / 0 1; 5 0; 0 -; 0>0 1>0; -")
}

// A Cost, None, and an Ends, a row's cost and an Ends, that together are Inf or more (P1001, W3).
func TestCostsOfInf(t *testing.T) {
	makes(t, "01", 2, "1", "0 1: - - -; 0 1: 1152921504606846975 - -", "line 4 / 0; 0; 1152921504606846971; ; -")
	makes(t, "01", 2, "1", "0 1: - - -; 0 1: - - -", "line 4 / 0; 0; 1152921504606846972; ; -")
	makes(t, "01", 2, "1", "0 1: - - -; 0 1: - - -", "line 1152921504606846975 / 0; 0; 1152921504606846975; ; -")
	makes(t, "01", 2, "1", "0 1: - - -; 0 1: - - -", "line 0 / 0; 1; 1152921504606846975; ; -")
	makes(t, "01", 2, "1", "0 1: - - -; 0 1: - - -", "line - / 0; 0; 0; ; 0")
	makes(t, "01", 2, "1", "0 1: 1152921504606846975 - -; 0 1: 1152921504606846974 - -", "line 1152921504606846970 / 0; 1; 3; ; 5")
	// Another Rule's counts beside it.
	makes(t, "01", 2, "11 10", "0 1: - - -, - - -; 0 1: 1000000 - -, - - -", "line 4 / 0; 0; 1152921504606846975; ; -", "line 999999 / 0; 0; 1; ; -")
}

// Rules of each category, and categories that no Rule has; of several of one the least (P1001).
func TestCategories(t *testing.T) {
	makes(t, "01", 2, "1", "0 1: - - -; 0 1: 4 - -", "line 4 / 0; 0; 0; ; -")
	makes(t, "01", 2, "1", "0 1: - - -; 0 1: - 4 -", "hyphen 4 / 0; 0; 0; ; -")
	makes(t, "01", 2, "1", "0 1: - - -; 0 1: - - 4", "emergency 4 / 0; 0; 0; ; -")
	three := []string{"emergency 9 / 0; 0; 0; ; -", "line 4 / 1; 0; 0; ; -", "hyphen 5 / 2; 0; 0; ; -", "emergency 7 / 2; 0; 0; ; -"}
	makes(t, "1000 0100 0011", 4, "1111", "1 2 3 3: - - -; 1 2 3 3: - - 9; 1 2 3 3: 4 - -; 1 2 3 3: - 5 7", three...)
	makes(t, "11 11 11", 2, "1111 1000 0110", "1 1: - - -, - - -, - - -; 1 1: 4 5 7, - - 9, 4 5 -", three...)
	makes(t, "11 11", 2, "11 10 01", "1 1: - - -, - - -, - - -; 1 1: 3 - -, 8 - -, 3 - -", "line 2 / 0; 6; 0; ; -", "line 3 / 1; 0; 0; ; -")
	makes(t, "11 11", 2, "11 10 01", "1 1: - - -, - - -, - - -; 1 1: 3 - -, 3 - -, 8 - -", "line 3 / 1; 0; 0; ; -", "line 2 / 0; 6; 0; ; -")
}

// Where several ways lead to a position the least cost is told; of several positions that end, too (P1001).
func TestLeastCost(t *testing.T) {
	// By two Arcs, the dear one first, last.
	makes(t, "01", 2, "1", "0 1: - - -; 0 2: - - -; 0 2: 3 - -", "line 0 / 0 0 0; 0 0 -; - - 0; 0>2:5 1>2:3; -")
	makes(t, "01", 2, "1", "0 1: - - -; 0 2: - - -; 0 2: 3 - -", "line 0 / 0 0 0; 0 0 -; - - 0; 0>2:3 1>2:5; -")
	// The Arc is dear, the way to it is cheap.
	makes(t, "01", 2, "1", "0 1: - - -; 0 2: - - -; 0 2: 6 - -", "line 0 / 0 0 0; 4 1 -; - - 0; 0>2:3 1>2:5; -")
	// By a First, or an Arc.
	makes(t, "01", 2, "1", "0 1: - - -; 0 2: 7 - -; 0 2: 4 - -", "line 0 / 0 0; 1 7; - 0; 0>1:3; -")
	makes(t, "01", 2, "1", "0 1: - - -; 0 1: 2 - -", "line 0 / 0 0; 1 2; - 0; 0>1:3; -")
	// Several positions end.
	makes(t, "01", 2, "1", "1 2: - - -; 1 2: 9 - -; 1 2: 4 - -", "line 0 / 0 0 .; 3 1 0; 1 5 9; ; -")
	makes(t, "01", 2, "1", "1 2: - - -; 1 2: 2 - -; 1 2: 1 - -", "line 0 / 0 .; 1 0; 0 2; ; -")
}

// States by all rows, told apart by Emit or not, and by costs (P1001).
func TestStatesThatSayTheSame(t *testing.T) {
	makes(t, "01", 2, "1", "0 1: 0 - -; 0 2: 0 - -; 0 3: 0 - -; 0 3: 0 - -", "line 0 / 0 0 0; 0 - -; - - 0; 0>1 1>2; 0")
	// The same positions, at other costs: a state of its own.
	makes(t, "100 010", 3, "1", "1 2 3: - - -; 1 2 3: 3 - -; 1 2 3: 5 - -; 1 2 3: 9 - -", "line 0 / 0 1 .; 3 5 9; 0 0 0; ; -")
	makes(t, "010 001", 3, "1", "0 1 2: - - -; 0 3 2: 7 - -; 0 4 2: - - -; 0 3 2: 7 - -; 0 3 2: 7 - -", "line 0 / 0 1 0; 7 0 -; 0 - -; 0>2:2 1>2:1; -")
	// The same side twice: no more states.
	makes(t, "01", 2, "11", "0 1: - - -; 0 2: - - -; 0 2: 1 2 -", "line 1 / 0 0; 0 -; - 0; 0>1; -", "hyphen 2 / 0 0; 0 -; - 0; 0>1; -")
	// Arcs are each side's own.
	makes(t, "01", 2, "11", "0 1: - - -; 0 2: - 2 -; 0 2: 1 2 -", "line 1 / 0 0; 0 -; - 0; 0>1; -", "hyphen 2 / 0 0; 0 -; 0 -; 1>0; -")
}

// State 0 is place 0, and states are numbered as they are first met, state by state, letter by letter (P1001).
func TestNumbers(t *testing.T) {
	three := []string{"line 1 / 0; 0; 0; ; -", "line 2 / 1; 0; 0; ; -", "line 3 / 2; 0; 0; ; -"}
	makes(t, "100 010 001", 3, "111", "1 2 3: - - -; 1 2 3: 1 - -; 1 2 3: 2 - -; 1 2 3: 3 - -", three...)
	makes(t, "001 010 100", 3, "111", "1 2 3: - - -; 1 2 3: 3 - -; 1 2 3: 2 - -; 1 2 3: 1 - -", three...)
	// State by state, not as deep as may be: those of state 0 come first.
	makes(t, "100 010 001", 3, "1", "1 0 2: - - -; 1 3 2: - - -; 1 0 2: - - -; 1 0 4: - - -; 1 0 2: 4 - -", "line 4 / 0 1 2 2; 0 - - 0; - - 0 -; 0>1 1>2; -")
	// Letters that nothing tells apart lead to the same state.
	makes(t, "10010 00100", 5, "1", "1 0 2 1 0: - - -; 1 0 2 1 0: 1 - -; 1 0 2 1 0: 2 - -", "line 0 / 0 1; 1 2; 0 0; ; -")
	// Place 0 is told apart from places behind letters, where any letter leads somewhere; else they are the same.
	makes(t, "", 2, "1", "1 1: - - -; 1 1: 0 - -", "line 0 / .; 0; 0; ; -")
	makes(t, "01", 2, "1", "0 1: - - -; 0 1: 0 - -", "line 0 / 0; 0; 0; ; -")
}

// chain tells a side of one position of a set, then so many of any letter: what was so many letters ago.
func chain(size, set int) api.Side {
	s := api.Side{None: api.Inf}
	for at := range size + 1 {
		s.Sets, s.First, s.Ends = append(s.Sets, -1), append(s.First, api.Inf), append(s.Ends, api.Inf)
		if at < size {
			s.Arcs = append(s.Arcs, api.Arc{From: at, To: at + 1})
		}
	}
	s.Sets[0], s.First[0], s.Ends[size] = set, 0, 0
	return s
}

// line tells a side of so many positions, one of a set behind another, each Arc of which costs 1.
func line(size int) api.Side {
	s := chain(size-1, 0)
	for at := range s.Sets {
		s.Sets[at] = 0
	}
	for i := range s.Arcs {
		s.Arcs[i].W = 1
	}
	return s
}

// alone tells what Make is handed of these sides: each Rule of category line, of no cost; a row in which all hold.
func alone(in string, letters int, sides ...api.Side) given {
	g := given{sides: sides, in: grid(in), letters: letters, sets: [][]bool{slices.Repeat([]bool{true}, len(sides))}}
	g.rules = make([]api.Rule, len(sides))
	return g
}

// As many positions as a side may have, in as many Rules as there may be: each is told from the others (P1001, P1002).
func TestManyPositions(t *testing.T) {
	var l []api.Side
	for i := range api.MaxRules {
		l = append(l, line(api.MaxPos-i))
	}
	g := alone("01", 2, l...)
	g.sets = nil
	for i := range l {
		g.rules[i] = api.Rule{Cat: i % 3, Cost: i}
		g.sets = append(g.sets, make([]bool, len(l)))
		g.sets[i][i] = true
	}
	f, e := g.made(plenty)
	if e != api.OK || len(f.Next) != api.MaxPos+1 {
		t.Fatalf("P1001: %d states, %v", len(f.Next), e)
	}
	text := slices.Repeat([]int{1}, api.MaxPos+5)
	for i := range l {
		for at, v := range Run(f, text, slices.Repeat([]int{i}, len(text)+1)) {
			want := api.Vec{api.Inf, api.Inf, api.Inf}
			if size := api.MaxPos - i; at >= size {
				want[i%3] = i + size - 1
			}
			if v != want {
				t.Fatalf("P1001: Rule %d, behind %d letters: %v, not %v", i, at, v, want)
			}
		}
	}
}

// turned tells s with its positions the other way about.
func turned(s api.Side) api.Side {
	z := api.Side{Sets: slices.Clone(s.Sets), First: slices.Clone(s.First), Ends: slices.Clone(s.Ends), None: s.None}
	slices.Reverse(z.Sets)
	slices.Reverse(z.First)
	slices.Reverse(z.Ends)
	last := len(s.Sets) - 1
	for _, a := range slices.Backward(s.Arcs) {
		z.Arcs = append(z.Arcs, api.Arc{From: last - a.From, To: last - a.To, W: a.W})
	}
	return z
}

// Wherever among many positions those of First, of Ends stand, the machine is the same (P1001).
func TestPositionsTheOtherWayAbout(t *testing.T) {
	for _, size := range []int{1, 2, 63, 64, 65, 66, 119, api.MaxPos} {
		g := alone("01", 2, line(size), chain(0, -1), line(size))
		want := g.says(plenty)
		for i := range g.sides {
			g.sides[i] = turned(g.sides[i])
			if got := g.says(plenty); got != want {
				t.Errorf("P1001: of %d positions, side %d turned: %s, not %s", size, i, got, want)
			}
		}
	}
}

// Costs of any size tell states apart: of each letter a First of its own (P1001).
func TestStatesByCosts(t *testing.T) {
	s := api.Side{None: api.Inf}
	var in []string
	costs := []int{0, 1, 2, 126, 127, 128, 129, 255, 256, 16383, 16384, 16511, api.MaxW, 1 << 31, 1 << 32, 1<<32 + 1, 1 << 56, api.Inf - 2, api.Inf - 1}
	for i, cost := range costs {
		s.Sets, s.First, s.Ends = append(s.Sets, i), append(s.First, api.Inf), append(s.Ends, api.Inf)
		in = append(in, strings.Repeat("0", i)+"1"+strings.Repeat("0", len(costs)-1-i))
		s.First[i] = cost
	}
	// The last position is of any letter, and goes on from each other one: so that rows differ by its costs alone, two letters on.
	last := len(costs)
	s.Sets, s.First, s.Ends = append(s.Sets, -1), append(s.First, api.Inf), append(s.Ends, 0)
	for i := range costs {
		s.Arcs = append(s.Arcs, api.Arc{From: i, To: last})
	}
	f, e := alone(strings.Join(in, " "), len(costs), s).made(plenty)
	if e != api.OK || len(f.Next) != 1+len(costs)+len(costs)*len(costs) {
		t.Fatalf("P1001: %d states, %v", len(f.Next), e)
	}
	for i, cost := range costs {
		for k := range costs {
			vecs := Run(f, []int{i, k}, []int{0, 0, 0})
			if want := fmt.Sprint([]api.Vec{{api.Inf, api.Inf, api.Inf}, {api.Inf, api.Inf, api.Inf}, {cost, api.Inf, api.Inf}}); fmt.Sprint(vecs) != want {
				t.Fatalf("P1001: of letters %d and %d: %v, not %s", i, k, vecs, want)
			}
		}
	}
}
