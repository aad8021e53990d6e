package mean

import (
	"testing"
)

// Each kind of pattern (P601, W4): what costs nothing, and where no match ends.
func TestCostOfEachKind(t *testing.T) {
	costs(t, "", "", "0")
	costs(t, "()", "ab", "0 0 0")
	costs(t, "a", "", "-")
	costs(t, "a", "aba", "- 0 - 0")
	costs(t, "o", "ab", "- - -")
	costs(t, "w", "ab", "- 0 0")
	costs(t, "x", "aqb", "- - 0 -")
	costs(t, ".", "ab", "- 0 0")
	costs(t, "a b", "abab", "- - 0 - 0")
	costs(t, "b a", "abab", "- - - 0 -")
	costs(t, "a | b", "aqb", "- 0 - 0")
	costs(t, "a*", "bab", "0 0 0 0")
	costs(t, "b a*", "abaab", "- - 0 0 0 0")
	costs(t, "o*", "ab", "0 0 0")
	costs(t, "a{2,2}", "aaab", "- - 0 0 -")
	costs(t, "a{0,0}", "ab", "0 0 0")
	costs(t, "b a{2,3} b", "baab", "- - - - 0")
	costs(t, "b a{2,3} b", "bab", "- - - -")
}

// Weights: within others, around others, twice around one, of no scalar, of 0 (P601, W4).
func TestCostOfWeights(t *testing.T) {
	costs(t, "a @ 5", "ab", "- 5 -")
	costs(t, "a @ 0", "ab", "- 0 -")
	costs(t, "() @ 7", "ab", "7 7 7")
	costs(t, "a @ 1000000", "a", "- 1000000")
	costs(t, "a @ 5 @ 6", "a", "- 11")
	costs(t, "() @ 5 @ 6 @ 0", "", "11")
	costs(t, "(a @ 5) b", "ab", "- - 5")
	costs(t, "a (b @ 5)", "ab", "- - 5")
	costs(t, "(a @ 2) (b @ 5)", "ab", "- - 7")
	costs(t, "((a @ 2) (b @ 5)) @ 10", "ab", "- - 17")
	costs(t, "(() @ 3) a (() @ 4)", "ab", "- 7 -")
	costs(t, "(() @ 3) (() @ 4)", "a", "7 7")
	costs(t, "a @ 3 | b @ 4", "ab", "- 3 4")
	costs(t, "(a | b) @ 4", "ab", "- 4 4")
	costs(t, "(a @ 2)* @ 10", "aa", "10 10 10")
	costs(t, "(a @ 1 b) @ 2", "ab", "- - 3")
	costs(t, "o @ 5", "ab", "- - -")
}

// Rounds: a star's, a repeat's; of no scalar, too (P601, W4).
func TestCostOfRounds(t *testing.T) {
	costs(t, "b (a @ 2)*", "baaa", "- 0 2 4 6")
	costs(t, "b (a @ 2 | a a @ 3)*", "baaa", "- 0 2 3 5")
	costs(t, "b (a @ 2)* b", "baab", "- - - - 4")
	costs(t, "(() @ 9)*", "ab", "0 0 0")
	costs(t, "b (a @ 2 | () @ 9)* b", "baab", "- - - - 4")
	costs(t, "b ((a @ 2)* @ 5)* b", "baab", "- - - - 9")
	costs(t, "b ((a @ 2)* @ 5)* b", "bb", "- - 0")
	costs(t, "b (a @ 2){1,3} b", "baaab", "- - - - - 6")
	costs(t, "b (a @ 2){0,2}", "baaa", "- 0 2 4 -")
	costs(t, "(() @ 4){2,5}", "a", "8 8")
	costs(t, "(() @ 4){0,5}", "a", "0 0")
	costs(t, "(() @ 4){5,5}", "a", "20 20")
	costs(t, "(a @ 3){0,0}", "a", "0 0")
	costs(t, "(a @ 1 | () @ 4){3,3}", "baa", "12 12 9 6")
	costs(t, "b (a @ 1 | () @ 4){2,3}", "baaa", "- 8 5 2 3")
	costs(t, "b (a @ 4 | () @ 1){2,3}", "baaa", "- 2 5 8 12")
	costs(t, "(a @ 5 | () @ 1){2,2} (b @ 1)", "ab", "- - 3")
	costs(t, "b ((a | () @ 1){2,2} b){2,2}", "bbab", "- - - - 3")
	costs(t, "(() @ 2){2,2}{3,3}", "", "12")
	costs(t, "b (a{1,2} @ 3){2,2} b", "baaaab", "- - - - - - 6")
	costs(t, "(() @ 1000000){12,12}", "a", "12000000 12000000")
}

// Of several matches the least; wherever they begin (P601, W4).
func TestLeastCost(t *testing.T) {
	costs(t, "a @ 3 | . @ 2", "ab", "- 2 2")
	costs(t, "a @ 2 | . @ 3", "ab", "- 2 3")
	costs(t, "a @ 3 | a @ 0", "a", "- 0")
	costs(t, "a b @ 1 | . @ 9", "ab", "- 9 1")
	costs(t, ". . @ 9 | . . . @ 2", "abcd", "- - 9 2 2")
	costs(t, "(a @ 1 | a a @ 1){2,2}", "aaaa", "- - 2 2 2")
	costs(t, "b (a @ 5 a @ 5 | a a @ 3 | a @ 1) a*", "baaa", "- - 1 1 1")
	costs(t, "(a @ 5)* b", "aab", "- - - 0")
	costs(t, "(() @ 5 | ) a", "a", "- 0")
	costs(t, ".* @ 4 | b a @ 1", "aba", "4 4 4 1")
	costs(t, "(. @ 1)* a | . . a", "bba", "- - - 0")
}

// What stands behind the place has no say (P601).
func TestCostUpToThere(t *testing.T) {
	x, f := left(t, "a | a b @ 3 | a b b @ 1")
	for _, behind := range []string{"", "b", "bb", "bbb", "qa"} {
		if got := Cost(x, f, scalars("ab"+behind), 2); got != 3 {
			t.Errorf("P601: Cost of ab, %s behind: %d", behind, got)
		}
	}
}
