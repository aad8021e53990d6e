package mean

import (
	"strings"
	"testing"

	"hyphen/api"
)

// No rules; no text: a row a place, all forbidden where no rule says otherwise (P602).
func TestBreaksOfNothing(t *testing.T) {
	if got := said(Breaks(api.File{}, nil)); got != "- - -" {
		t.Errorf("P602: Breaks of nothing: %s", got)
	}
	if got := said(Breaks(api.File{}, scalars("ab"))); got != "- - -, - - -, - - -" {
		t.Errorf("P602: Breaks of no rules: %s", got)
	}
	breaks(t, "", "", "- - -")
	breaks(t, "", "ab", "- - -, - - -, - - -")
	breaks(t, "line 5 : / ;", "", "5 - -")
	breaks(t, "line 5 : a / ;", "", "- - -")
	breaks(t, "line 5 : / a;", "", "- - -")
	breaks(t, "line 5 : a* / a*;", "", "5 - -")
	breaks(t, "line 5 : o / ;hyphen 5 : / o;emergency 5 : o* / o*;", "a", "- - 5, - - 5")
}

// Between what Left and what Right match (P602).
func TestBreaksBetween(t *testing.T) {
	breaks(t, "line 5 : / ;", "ab", "5 - -, 5 - -, 5 - -")
	breaks(t, "line 5 : a / ;", "aba", "- - -, 5 - -, - - -, 5 - -")
	breaks(t, "line 5 : / a;", "aba", "5 - -, - - -, 5 - -, - - -")
	breaks(t, "line 5 : a / b;", "abab", "- - -, 5 - -, - - -, 5 - -, - - -")
	breaks(t, "line 5 : . / .;", "abc", "- - -, 5 - -, 5 - -, - - -")
	breaks(t, "line 5 : w / ;", "ab", "- - -, 5 - -, 5 - -")
	breaks(t, "line 5 : a b / ;", "abab", "- - -, - - -, 5 - -, - - -, 5 - -")
	// Right is gone along from the place on, in its own order, as far as it may.
	breaks(t, "line 5 : / a b;", "abba", "5 - -, - - -, - - -, - - -, - - -")
	breaks(t, "line 5 : / b a;", "abba", "- - -, - - -, 5 - -, - - -, - - -")
	breaks(t, "line 5 : / a b b q;", "abbqab", "5 - -, - - -, - - -, - - -, - - -, - - -, - - -")
	breaks(t, "line 5 : / a{2,3} b;", "aaaab", "- - -, 5 - -, 5 - -, - - -, - - -, - - -")
	breaks(t, "line 5 : / a (a | ) b;", "aaab", "- - -, 5 - -, 5 - -, - - -, - - -")
	breaks(t, "line 5 : / .* b;", "aba", "5 - -, 5 - -, - - -, - - -")
	breaks(t, "line 5 : / (b a)* q;", "babaq", "5 - -, - - -, 5 - -, - - -, 5 - -, - - -")
	breaks(t, "line 5 : / . .{0,0};", "ab", "5 - -, 5 - -, - - -")
	breaks(t, "line 5 : / .{2,12};", "abc", "5 - -, 5 - -, - - -, - - -")
	// Right may end anywhere, not at the text's end alone.
	breaks(t, "line 5 : / a;", "ab", "5 - -, - - -, - - -")
	// Left may begin anywhere.
	breaks(t, "line 5 : b / ;", "ab", "- - -, - - -, 5 - -")
	breaks(t, "line 5 : .{2,2} / ;", "abc", "- - -, - - -, 5 - -, 5 - -")
}

// What Left costs is added (P602).
func TestBreaksAdd(t *testing.T) {
	breaks(t, "line 5 : a @ 2 / ;", "ab", "- - -, 7 - -, - - -")
	breaks(t, "line 0 : a @ 0 / ;", "a", "- - -, 0 - -")
	breaks(t, "line 0 : / ;", "a", "0 - -, 0 - -")
	breaks(t, "line 5 : b (a @ 2)* / ;", "baab", "- - -, 5 - -, 7 - -, 9 - -, 5 - -")
	breaks(t, "line 5 : b (a @ 2)* / a;", "baab", "- - -, 5 - -, 7 - -, - - -, - - -")
	breaks(t, "line 1000000 : a @ 1000000 @ 1000000 / ;", "a", "- - -, 3000000 - -")
}

// Three categories, apart; of several rules of one the least (P602).
func TestBreaksOfCategories(t *testing.T) {
	breaks(t, "line 1 : / ;", "", "1 - -")
	breaks(t, "hyphen 1 : / ;", "", "- 1 -")
	breaks(t, "emergency 1 : / ;", "", "- - 1")
	breaks(t, "emergency 3 : a / ;line 1 : / b;hyphen 2 : a / b;", "ab", "- - -, 1 2 3, - - -")
	breaks(t, "line 5 : / ;line 3 : a / ;line 4 : / b;", "ab", "5 - -, 3 - -, 5 - -")
	breaks(t, "line 3 : a / ;line 5 : / ;line 4 : / b;", "abb", "5 - -, 3 - -, 4 - -, 5 - -")
	breaks(t, "line 5 : a / b;line 3 : a @ 1 / . ;", "ab", "- - -, 4 - -, - - -")
	breaks(t, "line 3 : a @ 1 / ;line 3 : a @ 2 / ;line 4 : a @ 1 / ;", "a", "- - -, 4 - -")
	breaks(t, "line 1 : a / q;line 9 : a / b;", "ab", "- - -, 9 - -, - - -")
	breaks(t, "line 1 : q / b;line 9 : a / b;", "ab", "- - -, 9 - -, - - -")
	breaks(t, "line 5 : / ;line 5 : / ;hyphen 5 : / ;hyphen 0 : / ;", "", "5 0 -")
	breaks(t, strings.Repeat("hyphen 7 : / ;", 19)+"hyphen 3 : b / ;", "ab", "- 7 -, - 7 -, - 3 -")
}

// Breaks tells what Cost and Ends do (P602).
func TestBreaksByCostAndEnds(t *testing.T) {
	d := &dice{11}
	for range 500 {
		f, text := d.rules(t, 4, 4), d.text(8)
		got := Breaks(f, text)
		if len(got) != len(text)+1 {
			t.Fatalf("P602: %d rows of %d places", len(got), len(text)+1)
		}
		for i := range got {
			want := api.Vec{api.Inf, api.Inf, api.Inf}
			for _, r := range f.Rules {
				if len(Ends(r.Right, f, text, i)) > 0 {
					want[r.Cat] = min(want[r.Cat], r.Cost+Cost(r.Left, f, text, i))
				}
			}
			if got[i] != want {
				t.Fatalf("P602: at %d: %v, not %v", i, got[i], want)
			}
		}
	}
}
