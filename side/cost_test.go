package side

import (
	"math"
	"strings"
	"testing"

	"hyphen/api"
	"hyphen/mean"
)

// costs holds what Cost tells from one place to each from there on.
func costs(t *testing.T, pattern, text string, from int, want string) {
	t.Helper()
	x, f := left(t, pattern)
	s := made(t, x, f)
	var l []int
	for to := from; to <= len(scalars(text)); to++ {
		l = append(l, Cost(s, f, scalars(text), from, to))
	}
	if got := numbers(l); got != want {
		t.Errorf("P702: Cost of %.200q over %.200q from %d: %s, not %s", pattern, text, from, got, want)
	}
}

// Nothing: None, at each place (P702).
func TestCostOfNothing(t *testing.T) {
	for pattern, want := range map[string]string{"": "0", "()": "0", "() @ 7": "7", "a": "-", "a*": "0", "a* @ 3": "3", "a | () @ 4": "4", "(() @ 2){3,5}": "6", "a{0,0}": "0", "a o": "-", "(a | () @ 2) (b | () @ 3)": "5"} {
		x, f := left(t, pattern)
		for _, text := range []string{"", "a", "ab"} {
			for at := range len(text) + 1 {
				if got := number(Cost(made(t, x, f), f, scalars(text), at, at)); got != want {
					t.Errorf("P702: Cost of nothing, of %s, over %s at %d: %s, not %s", pattern, text, at, got, want)
				}
			}
		}
	}
}

// From one place to another: First, an Arc for each next scalar, Ends (P702).
func TestCostOfMatches(t *testing.T) {
	costs(t, "a", "ab", 0, "- 0 -")
	costs(t, "a", "ab", 1, "- -")
	costs(t, "a", "ab", 2, "-")
	costs(t, ".", "ab", 0, "- 0 -")
	costs(t, ".", "ab", 1, "- 0")
	costs(t, "a b", "ab", 0, "- - 0")
	costs(t, "a b", "ba", 0, "- - -")
	costs(t, "a @ 5 b @ 6", "aab", 1, "- - 11")
	costs(t, "(() @ 1) a (() @ 2) b (() @ 4)", "ab", 0, "- - 7")
	costs(t, "a | a @ 3 a @ 2", "aaa", 0, "- 0 5 -")
	costs(t, "(a @ 2)*", "aaab", 0, "0 2 4 6 -")
	costs(t, "(a @ 2)*", "aaab", 1, "0 2 4 -")
	costs(t, "(a @ 2 | a a @ 3)*", "aaaa", 0, "0 2 3 5 6")
	costs(t, "(a | () @ 3){1,3}", "aaaa", 0, "3 0 0 0 -")
	costs(t, "(a | () @ 3){3,3}", "aaaa", 0, "9 6 3 0 -")
	costs(t, "(a @ 4 | () @ 1){2,3}", "aaaa", 0, "2 5 8 12 -")
	costs(t, "((a | () @ 3) b @ 2)*", "abbab", 0, "0 - 2 7 - 9")
	costs(t, "((a* @ 1) (b* @ 2))*", "aabba", 0, "0 3 3 3 3 6")
	costs(t, "a{12,12}", strings.Repeat("a", 13), 0, strings.Repeat("- ", 12)+"0 -")
	costs(t, "a{12,12}", strings.Repeat("a", 13), 1, strings.Repeat("- ", 12)+"0")
	// The cheaper of two ways, wherever they part, and whichever is made first.
	costs(t, "a @ 3 | . @ 2", "ab", 0, "- 2 -")
	costs(t, ". @ 2 | a @ 3", "ab", 0, "- 2 -")
	costs(t, "(a @ 1 | . @ 5) (. @ 1 | b @ 7)", "ab", 0, "- - 2")
	costs(t, "(a (() @ 9) | .) (b @ 4 | v (() @ 1))", "ab", 0, "- - 4")
	costs(t, "(a (() @ 9) | .) (b @ 4 | v (() @ 1))", "ae", 0, "- - 1")
}

// Scalars by the sets of their positions: at the edges of sets, 0, Last (P702, W1).
func TestCostBySets(t *testing.T) {
	costs(t, "v v v b", "aeib", 0, "- - - - 0")
	costs(t, "v v", "ab", 0, "- - -")
	costs(t, "o", "a", 0, "- -")
	costs(t, "o* a", "aa", 0, "- 0 -")
	costs(t, "w w", "a\U0010ffff", 0, "- - 0")
	costs(t, "m a", "\x01a", 0, "- - 0")
	costs(t, "m", "\x00", 0, "- -")
	costs(t, "m", "\x02", 0, "- -")
	costs(t, "a .{2,2} a", "a\x00\U0010ffffa", 0, "- - - - 0")
	x, f := left(t, ".")
	if got := Cost(made(t, x, f), api.File{}, scalars("ab"), 0, 1); got != 0 {
		t.Errorf("P702: Cost of any without Defs: %d", got)
	}
	// The file tells what a set has: of another one another.
	x, f = left(t, "a")
	g := api.File{Defs: []api.Def{{Name: "q", C: api.Class{Kind: api.CRange, Lo: 'q', Hi: 'q'}}}}
	s := made(t, x, f)
	if a, q := Cost(s, g, scalars("a"), 0, 1), Cost(s, g, scalars("q"), 0, 1); a != api.Inf || q != 0 {
		t.Errorf("P702: Cost by another file: %d, %d", a, q)
	}
}

// What stands ahead and behind has no say (P702).
func TestCostBetween(t *testing.T) {
	x, f := left(t, "(a b @ 3 | a @ 1)* | b @ 8")
	s := made(t, x, f)
	for _, ahead := range []string{"", "a", "b", "ab", "qqq"} {
		for _, behind := range []string{"", "a", "b", "ba", "q"} {
			text := scalars(ahead + "aab" + behind)
			if got := Cost(s, f, text, len(ahead), len(ahead)+3); got != 4 {
				t.Errorf("P702: Cost of aab between %s and %s: %d", ahead, behind, got)
			}
		}
	}
}

// Places that are none, or from behind to: no match, and an end (P1, P8).
func TestNoSuchPlaces(t *testing.T) {
	for _, pattern := range []string{"", ".", ".*", "a{0,2}", "() @ 3"} {
		x, f := left(t, pattern)
		s := made(t, x, f)
		for _, c := range [][2]int{{1, 0}, {2, 1}, {-1, 0}, {-1, -1}, {0, 3}, {3, 3}, {2, 3}, {3, 2}, {math.MinInt, math.MaxInt}, {math.MaxInt, math.MinInt}, {math.MaxInt, math.MaxInt}, {math.MinInt, math.MinInt}} {
			if got := Cost(s, f, scalars("ab"), c[0], c[1]); got != api.Inf {
				t.Errorf("P702: Cost of %s from %d to %d: %d", pattern, c[0], c[1], got)
			}
		}
	}
}

// A cost of Inf, or more, on the way is forbidden (W3, P702): so says chapter 6, too (P703).
func TestCostOfWhatIsForbidden(t *testing.T) {
	x, f := left(t, "a")
	third := none()
	for n, deep := api.Inf/3, 0; n > 0; n, deep = n/12, deep+1 {
		for range n % 12 {
			third = cat(third, nested(cost(none(), 1), 12, 12, deep))
		}
	}
	round := many0(cat(third, x))
	text := scalars("aaaaa")
	s := made(t, round, f)
	for to, want := range []int{0, api.Inf / 3, api.Inf / 3 * 2, api.Inf / 3 * 3, api.Inf, api.Inf} {
		if got := Cost(s, f, text, 0, to); got != want {
			t.Errorf("P702: Cost to %d: %d, not %d", to, got, want)
		}
		if got := marked(round, f, text, 0, to); got != want {
			t.Errorf("P703: by chapter 6 to %d: %d, not %d", to, got, want)
		}
	}
	if got := Cost(made(t, cat(cat(third, third), cat(round, cat(third, x))), f), f, text, 0, 1); got != api.Inf/3*3 {
		t.Errorf("P702: Cost just below Inf: %d", got)
	}
	dear := cat(cat(third, third), cat(cat(third, x), cost(third, 9)))
	if got, want := Cost(made(t, dear, f), f, text, 0, 1), mean.Cost(dear, f, text[:1], 1); got != api.Inf || want != api.Inf {
		t.Errorf("P703: Cost of Inf and more: %d, %d", got, want)
	}
}

// A long text, many arcs: each call ends soon (P1, P702).
func TestCostOfLongText(t *testing.T) {
	text := scalars(strings.Repeat("aab", 1333) + "q")
	x, f := left(t, "(("+strings.Repeat("a|", 50)+"a @ 1 | b @ 2)* | "+strings.Repeat("v*", 60)+")*")
	s := made(t, x, f)
	if got := Cost(s, f, text, 0, 3999); got != 2*1333 {
		t.Errorf("P702: Cost of a long text: %d", got)
	}
	if got := Cost(s, f, text, 0, 4000); got != api.Inf {
		t.Errorf("P702: Cost of a long text: %d", got)
	}
}
