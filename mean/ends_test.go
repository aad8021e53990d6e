package mean

import (
	"math"
	"slices"
	"strings"
	"testing"

	"hyphen/api"
)

// Each kind of pattern, by itself (P601, W4).
func TestEndsOfEachKind(t *testing.T) {
	// RNone.
	ends(t, "", "", 0, "0")
	ends(t, "()", "ab", 0, "0")
	ends(t, "()", "ab", 1, "1")
	ends(t, "()", "ab", 2, "2")
	// RSet: one scalar, of that set alone; a set of nothing, of all, of all but some.
	ends(t, "a", "", 0, "")
	ends(t, "a", "ab", 0, "1")
	ends(t, "a", "ab", 1, "")
	ends(t, "a", "ab", 2, "")
	ends(t, "b", "ab", 1, "2")
	ends(t, "v", "aei", 1, "2")
	ends(t, "v", "abc", 1, "")
	ends(t, "o", "ab", 0, "")
	ends(t, "o", "", 0, "")
	ends(t, "w", "ab", 0, "1")
	ends(t, "w", "ab", 2, "")
	ends(t, "x", "aq", 0, "")
	ends(t, "x", "aq", 1, "2")
	// RAny.
	ends(t, ".", "", 0, "")
	ends(t, ".", "ab", 0, "1")
	ends(t, "any", "ab", 1, "2")
	ends(t, ".", "ab", 2, "")
	// RCat: in that order.
	ends(t, "a b", "ab", 0, "2")
	ends(t, "b a", "ab", 0, "")
	ends(t, "a b", "a", 0, "")
	ends(t, "a b a", "aba", 0, "3")
	ends(t, "a (b a)", "aba", 0, "3")
	ends(t, "a o", "ab", 0, "")
	ends(t, "o a", "ab", 0, "")
	ends(t, "() a ()", "ab", 0, "1")
	// RAlt.
	ends(t, "a | b", "ab", 0, "1")
	ends(t, "a | b", "ab", 1, "2")
	ends(t, "a | b", "q", 0, "")
	ends(t, "a | a b | a b a", "aba", 0, "1 2 3")
	ends(t, "a b | a", "ab", 0, "1 2")
	ends(t, "a | ", "ab", 0, "0 1")
	ends(t, "a | o", "ab", 0, "1")
	// RStar: of what may match nothing, of a star, of nothing at all, too.
	ends(t, "a*", "", 0, "0")
	ends(t, "a*", "aaab", 0, "0 1 2 3")
	ends(t, "a*", "aaab", 3, "3")
	ends(t, "a*", "aaab", 4, "4")
	ends(t, "()*", "ab", 1, "1")
	ends(t, "o*", "ab", 1, "1")
	ends(t, "(a | )*", "aab", 0, "0 1 2")
	ends(t, "a**", "aab", 0, "0 1 2")
	ends(t, "(a* b*)*", "abba", 0, "0 1 2 3 4")
	ends(t, "(a b)*", "ababa", 0, "0 2 4")
	ends(t, "(a a)* a", "aaaa", 0, "1 3")
	ends(t, ".* b", "abab", 0, "2 4")
	// RTimes: from 0, from 0 to 0, of what may match nothing; more than there are scalars.
	ends(t, "a{2,3}", "aaaaa", 1, "3 4")
	ends(t, "a{1,1}", "aa", 0, "1")
	ends(t, "a{0,0}", "aa", 1, "1")
	ends(t, "o{0,0}", "aa", 1, "1")
	ends(t, "o{0,3}", "aa", 1, "1")
	ends(t, "o{1,3}", "aa", 1, "")
	ends(t, "a{0,2}", "aaaa", 0, "0 1 2")
	ends(t, "a{0,12}", "aab", 0, "0 1 2")
	ends(t, "a{3,12}", "aab", 0, "")
	ends(t, "(a | ){2,3}", "aaaaa", 0, "0 1 2 3")
	ends(t, "(){3,12}", "ab", 1, "1")
	ends(t, "(a*){2,2}", "aab", 0, "0 1 2")
	ends(t, "(a | b b){2,2}", "abbbb", 0, "3")
	ends(t, "(a a | a){2,3}", "aaaaaaaa", 0, "2 3 4 5 6")
	ends(t, "a{2,2}{2,2}", "aaaaa", 0, "4")
	ends(t, "a{12,12}", strings.Repeat("a", 13), 0, "12")
	ends(t, "a{12,12}", strings.Repeat("a", 11), 0, "")
	// RWeight: what is in it.
	ends(t, "a @ 5", "ab", 0, "1")
	ends(t, "a @ 5", "ab", 1, "")
	ends(t, "() @ 5", "ab", 1, "1")
	ends(t, "(a @ 1000000)*", "aab", 0, "0 1 2")
}

// Rising, each place once, in how many ways it may be come to (P601).
func TestEndsRise(t *testing.T) {
	ends(t, "a | a", "ab", 0, "1")
	ends(t, "a @ 1 | a @ 2", "ab", 0, "1")
	ends(t, "a a a | a | a a | ", "aaaa", 0, "0 1 2 3")
	ends(t, "(a | a a | .)*", "aaaa", 0, "0 1 2 3 4")
	ends(t, "(. . | b . | .) (. . | .)", "abab", 0, "2 3 4")
	ends(t, "a* a* a*", "aaa", 0, "0 1 2 3")
}

// What is ahead of from has no say, nor has what is behind a match (P601).
func TestEndsBeginAtFrom(t *testing.T) {
	ends(t, "a b", "bab", 1, "3")
	ends(t, "b* a", "bba", 1, "3")
	ends(t, "(a b)* ", "ababq", 2, "2 4")
	ends(t, ".*", "abab", 3, "3 4")
}

// A place that is none: no match (P601).
func TestNoSuchPlace(t *testing.T) {
	for _, pattern := range []string{"", "a", ".*", "a{0,2}", "() @ 3"} {
		x, f := left(t, pattern)
		for _, text := range []string{"", "a", "aa"} {
			for _, at := range []int{-1, -2, len(text) + 1, len(text) + 2, math.MinInt, math.MaxInt} {
				if got := Ends(x, f, scalars(text), at); len(got) != 0 {
					t.Errorf("P601: Ends of %s over %s from %d: %v", pattern, text, at, got)
				}
				if got := Cost(x, f, scalars(text), at); got != api.Inf {
					t.Errorf("P601: Cost of %s over %s to %d: %d", pattern, text, at, got)
				}
			}
		}
	}
}

// A match that costs Inf, or more, ends all the same; what it costs is forbidden (W3, P601).
func TestEndsOfWhatIsForbidden(t *testing.T) {
	x, f := left(t, "a")
	x = cost(x, api.MaxW)
	for k := range 14 {
		if got := Ends(x, f, scalars("ab"), 0); !slices.Equal(got, []int{1}) {
			t.Errorf("P601: Ends, %d deep: %v", k, got)
		}
		x = cat(repeat(cost(none(), api.MaxW), 12, 12), repeat(x, 1, 1))
	}
	x = cost(none(), 1)
	for want := 1; want < api.Inf; want *= 12 {
		if got := Cost(x, f, nil, 0); got != want {
			t.Errorf("P601: Cost of %d: %d", want, got)
		}
		x = repeat(x, 12, 12)
		if want > api.Inf/12 {
			break
		}
	}
	for range 9 {
		if got := Cost(x, f, scalars("ab"), 2); got != api.Inf {
			t.Errorf("W3: Cost of more than Inf: %d", got)
		}
		if got := Ends(x, f, scalars("ab"), 2); !slices.Equal(got, []int{2}) {
			t.Errorf("P601: Ends of what costs more than Inf: %v", got)
		}
		r := api.File{Defs: f.Defs, Rules: []api.Rule{{Cat: 0, Cost: 5, Left: x, Right: none()}, {Cat: 1, Cost: 5, Left: none(), Right: dot()}}}
		if got := said(Breaks(r, scalars("a"))); got != "- 5 -, - - -" {
			t.Errorf("P602: Breaks of what costs more than Inf: %s", got)
		}
		x = repeat(x, 12, 12)
	}
}

// Sets at their edges: 0, Last, around D800 to DFFF; the twelfth Def; one that names another (W1, P601).
func TestSetsOfScalars(t *testing.T) {
	f := file(t, "class e = U+0 | U+10FFFF;class d = U+D7FF..U+E000;class n = !e;class many = 'c'..'e' | 'g' | 'i'..'k' | 'q';class r = n & (many - 'j') | 'z';line 1 : e / ;")
	for _, c := range []struct {
		name string
		in   []int
		out  []int
	}{
		{"e", []int{0, api.Last}, []int{1, api.Last - 1, 'e'}},
		{"d", []int{0xd7ff, 0xe000}, []int{0xd7fe, 0xe001, 0, api.Last}},
		{"n", []int{1, api.Last - 1, 'e'}, []int{0, api.Last}},
		{"many", scalars("cdegijkq"), scalars("bfhlprz")},
		{"r", scalars("cdegikqz"), append(scalars("jbfhlpry"), 0, api.Last)},
	} {
		for _, n := range append(slices.Clone(c.in), c.out...) {
			want := api.Inf
			if slices.Contains(c.in, n) {
				want = 0
			}
			if got := Cost(set(c.name), f, []int{n}, 1); got != want {
				t.Errorf("P601: %x of %s: %d, not %d", n, c.name, got, want)
			}
			if got := Ends(set(c.name), f, []int{n}, 0); (len(got) == 1 && got[0] == 1) != (want == 0) {
				t.Errorf("P601: %x of %s: %v", n, c.name, got)
			}
		}
	}
}
