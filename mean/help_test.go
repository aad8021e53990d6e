package mean

import (
	"fmt"
	"slices"
	"strings"
	"testing"

	"hyphen/api"
	"hyphen/syn"
	"hyphen/trop"
)

// Short ways to write patterns.

func none() api.Rex            { return api.Rex{Kind: api.RNone} }
func set(name string) api.Rex  { return api.Rex{Kind: api.RSet, Name: name} }
func dot() api.Rex             { return api.Rex{Kind: api.RAny} }
func cat(a, b api.Rex) api.Rex { return api.Rex{Kind: api.RCat, L: []api.Rex{a, b}} }
func alt(a, b api.Rex) api.Rex { return api.Rex{Kind: api.RAlt, L: []api.Rex{a, b}} }
func many0(x api.Rex) api.Rex  { return api.Rex{Kind: api.RStar, L: []api.Rex{x}} }
func cost(x api.Rex, w int) api.Rex {
	return api.Rex{Kind: api.RWeight, W: w, L: []api.Rex{x}}
}
func repeat(x api.Rex, lo, hi int) api.Rex {
	return api.Rex{Kind: api.RTimes, Lo: lo, Hi: hi, L: []api.Rex{x}}
}

// defs is the sets that patterns of these tests name: o has nothing, w all.
const defs = "class a = 'a';class b = 'b';class v = 'a' | 'e' | 'i';class o = any - any;class w = any;class x = !(a | b);class q = 'q';"

// file reads rules behind defs.
func file(t *testing.T, s string) api.File {
	t.Helper()
	f, at, e := syn.Parse(defs + s)
	if e != api.OK {
		t.Fatalf("%.300s: %d: %v", s, at-len(defs), e)
	}
	return f
}

// left reads a pattern, and the file that it is of.
func left(t *testing.T, s string) (api.Rex, api.File) {
	t.Helper()
	f := file(t, "line 1 : "+s+" / ;")
	return f.Rules[0].Left, f
}

// scalars tells those of s.
func scalars(s string) []int {
	var l []int
	for _, r := range s {
		l = append(l, int(r))
	}
	return l
}

// said tells costs as a text.
func said(l []api.Vec) string {
	var words []string
	for _, v := range l {
		words = append(words, trop.Text(v))
	}
	return strings.Join(words, ", ")
}

// ends holds what Ends tells: a place a word.
func ends(t *testing.T, pattern, text string, from int, want string) {
	t.Helper()
	x, f := left(t, pattern)
	if got := strings.Trim(fmt.Sprint(Ends(x, f, scalars(text), from)), "[]"); got != want {
		t.Errorf("P601: Ends of %.200q over %.200q from %d: %s, not %s", pattern, text, from, got, want)
	}
}

// costs holds what Cost tells of each place in turn: a place a word, - for Inf.
func costs(t *testing.T, pattern, text, want string) {
	t.Helper()
	x, f := left(t, pattern)
	var words []string
	for to := range len(scalars(text)) + 1 {
		n := fmt.Sprint(Cost(x, f, scalars(text), to))
		if n == fmt.Sprint(api.Inf) {
			n = "-"
		}
		words = append(words, n)
	}
	if got := strings.Join(words, " "); got != want {
		t.Errorf("P601: Cost of %.200q over %.200q: %s, not %s", pattern, text, got, want)
	}
}

// breaks holds what Breaks tells.
func breaks(t *testing.T, rules, text, want string) {
	t.Helper()
	if got := said(Breaks(file(t, rules), scalars(text))); got != want {
		t.Errorf("P602: Breaks of %.300q over %.200q: %s, not %s", rules, text, got, want)
	}
}

// dice throws.
type dice struct{ n uint64 }

func (d *dice) of(k int) int {
	d.n = d.n*6364136223846793005 + 1442695040888963407
	return int(d.n>>33) % k
}

// pick throws for one of l.
func pick[T any](d *dice, l ...T) T {
	return l[d.of(len(l))]
}

// rex throws a pattern, so deep at most, each repeat up to hi.
func (d *dice) rex(deep, hi int, weighs bool) api.Rex {
	if deep == 0 || d.of(5) == 0 {
		return pick(d, none(), dot(), set("a"), set("a"), set("b"), set("b"), set("v"), set("o"), set("w"), set("x"))
	}
	x := d.rex(deep-1, hi, weighs)
	switch k := d.of(8); {
	case k < 3:
		return cat(x, d.rex(deep-1, hi, weighs))
	case k < 5:
		return alt(x, d.rex(deep-1, hi, weighs))
	case k == 5:
		lo := d.of(hi + 1)
		return repeat(x, lo, lo+d.of(hi+1-lo))
	case k == 6 && weighs:
		return cost(x, pick(d, 0, 1, 1, d.of(9), 1000, api.MaxW))
	}
	return many0(x)
}

// text throws one of at most so many scalars.
func (d *dice) text(most int) []int {
	var l []int
	for range d.of(most + 1) {
		l = append(l, pick[int](d, 'a', 'a', 'b', 'b', 'e', 'q', 0, api.Last))
	}
	return l
}

// rules throws a file.
func (d *dice) rules(t *testing.T, deep, hi int) api.File {
	f := file(t, "")
	for range d.of(5) {
		f.Rules = append(f.Rules, api.Rule{Cat: d.of(3), Cost: pick(d, 0, 1, d.of(50), api.MaxW), Left: d.rex(deep, hi, true), Right: d.rex(deep, hi, false)})
	}
	return f
}

// rising tells whether l does, each number once.
func rising(l []int) bool {
	return slices.IsSorted(l) && len(slices.Compact(slices.Clone(l))) == len(l)
}
