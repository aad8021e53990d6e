package mean

import (
	"slices"
	"strings"
	"testing"

	"hyphen/api"
)

// nested is a pattern within so many repeats.
func nested(x api.Rex, lo, hi, deep int) api.Rex {
	for range deep {
		x = repeat(x, lo, hi)
	}
	return x
}

// Repeats within repeats, as many as a file may say: each call ends (P1), and tells what they match (P601).
func TestRepeatsWithinRepeats(t *testing.T) {
	const deep = 500
	f := file(t, "line 1 : a"+strings.Repeat("{12,12}", deep)+" / ;")
	if got := Cost(f.Rules[0].Left, f, scalars("aaaaaaaaaaaa"), 12); got != api.Inf {
		t.Errorf("P601: Cost of too many: %d", got)
	}
	if got := Cost(nested(set("a"), 1, 1, deep), f, scalars("baa"), 3); got != 0 {
		t.Errorf("P601: Cost of one: %d", got)
	}
	if got := Ends(nested(alt(set("a"), none()), 12, 12, deep), f, scalars("aaaab"), 1); !slices.Equal(got, []int{1, 2, 3, 4}) {
		t.Errorf("P601: Ends: %v", got)
	}
	if got := Ends(nested(set("a"), 1, 12, deep), f, scalars("aaaab"), 1); !slices.Equal(got, []int{2, 3, 4}) {
		t.Errorf("P601: Ends: %v", got)
	}
	if got := Ends(nested(set("a"), 2, 2, 4), f, scalars(strings.Repeat("a", 30)), 7); !slices.Equal(got, []int{7 + 16}) {
		t.Errorf("P601: Ends: %v", got)
	}
	// Fewest rounds with nothing, then: 2^20 of them, of which three may match a scalar each for less.
	x := nested(alt(cost(set("a"), 1), cost(none(), 5)), 2, 3, 20)
	if got := Cost(x, f, scalars("baaa"), 4); got != 5*(1<<20)-3*4 {
		t.Errorf("P601: Cost: %d", got)
	}
}

// Brackets within brackets, repeated, with more between them (P1, P601).
func TestRepeatsApart(t *testing.T) {
	x, f := left(t, strings.Repeat("(", 11)+"a"+strings.Repeat("{0,12} (a @ 1))", 11))
	text := scalars("b" + strings.Repeat("a", 40))
	for to, want := range map[int]int{0: api.Inf, 1: api.Inf, 2: 1, 3: 1, 41: 1} {
		if got := Cost(x, f, text, to); got != want {
			t.Errorf("P601: Cost to %d: %d, not %d", to, got, want)
		}
	}
	if got := Ends(x, f, text, 1); len(got) != 40 || got[0] != 2 || !rising(got) {
		t.Errorf("P601: Ends: %v", got)
	}
}

// A greater text, whose repeats need a table: as plain tells.
func TestTables(t *testing.T) {
	d := &dice{13}
	f := file(t, "")
	for range 6 {
		x := nested(cat(d.rex(2, 3, true), pick(d, set("a"), set("b"), dot())), 0, 12, 2)
		y := repeat(cat(x, alt(none(), cost(set("b"), 2))), 0, 12)
		var text []int
		for range 30 {
			text = append(text, pick[int](d, 'a', 'a', 'b'))
		}
		checkRex(t, y, f, text)
	}
}

// Stars within stars, long rows, many choices: each call ends (P1).
func TestGreatPatterns(t *testing.T) {
	text := scalars(strings.Repeat("aab", 300))
	x, f := left(t, "a"+strings.Repeat("*", 3700))
	if got := Ends(x, f, text, 0); !slices.Equal(got, []int{0, 1, 2}) {
		t.Errorf("P601: Ends of stars: %v", got)
	}
	x, f = left(t, strings.Repeat("(", 12)+"a"+strings.Repeat("* b*)*", 12))
	if got := Ends(x, f, text, 0); len(got) != len(text)+1 {
		t.Errorf("P601: Ends of stars of stars: %d", len(got))
	}
	x, f = left(t, strings.Repeat("a a b ", 600))
	if got := Cost(x, f, slices.Concat(text, text), 1800); got != 0 {
		t.Errorf("P601: Cost of a long row: %d", got)
	}
	x, f = left(t, strings.Repeat("a|", 1700)+"b @ 7")
	if got := Cost(x, f, text, 3); got != 7 {
		t.Errorf("P601: Cost of many: %d", got)
	}
	x, f = left(t, "a"+strings.Repeat("@1000000", 400))
	if got := Cost(x, f, text, 1); got != 400*api.MaxW {
		t.Errorf("P601: Cost of many weights: %d", got)
	}
	deep := set("a")
	for range 999 {
		deep = alt(deep, none())
	}
	if got := Ends(deep, f, text, 0); !slices.Equal(got, []int{0, 1}) {
		t.Errorf("P601: Ends of a deep pattern: %v", got)
	}
}

// A long text, and as many rules as may be (P1, P602).
func TestLongText(t *testing.T) {
	f := file(t, strings.Repeat("line 9 : ((.* a)* (a | b)* @ 1)* a .* @ 1 / (a | b)* .* b .* a{0,5} (a | v)*;", 18)+"line 2 : b / ;hyphen 4 : b b{2,5} (a @ 1)* / (a* b)* q;")
	text := scalars(strings.Repeat("a", 2000) + "bbb" + strings.Repeat("a", 1999) + "q")
	row := Breaks(f, text)
	if len(row) != len(text)+1 {
		t.Fatalf("P602: %d rows", len(row))
	}
	for i, want := range map[int]api.Vec{
		0: {api.Inf, api.Inf, api.Inf}, 1: {10, api.Inf, api.Inf}, 2000: {10, api.Inf, api.Inf}, 2001: {2, api.Inf, api.Inf}, 2003: {2, api.Inf, api.Inf},
		4002: {api.Inf, 4 + 1999, api.Inf}, 4001: {api.Inf, api.Inf, api.Inf}, 4003: {api.Inf, api.Inf, api.Inf},
	} {
		if row[i] != want {
			t.Errorf("P602: at %d: %v, not %v", i, row[i], want)
		}
	}
}
