package side

import (
	"fmt"
	"strings"
	"testing"

	"hyphen/api"
	"hyphen/part"
	"hyphen/syn"
)

// Short ways to write patterns.

func none() api.Rex            { return api.Rex{Kind: api.RNone} }
func set(name string) api.Rex  { return api.Rex{Kind: api.RSet, Name: name} }
func dot() api.Rex             { return api.Rex{Kind: api.RAny} }
func cat(a, b api.Rex) api.Rex { return api.Rex{Kind: api.RCat, L: []api.Rex{a, b}} }
func alt(a, b api.Rex) api.Rex { return api.Rex{Kind: api.RAlt, L: []api.Rex{a, b}} }
func many0(x api.Rex) api.Rex  { return api.Rex{Kind: api.RStar, L: []api.Rex{x}} }
func cost(x api.Rex, w int) api.Rex {
	return api.Rex{Kind: api.RWeight, W: w, L: []api.Rex{x}}
}
func repeat(x api.Rex, lo, hi int) api.Rex {
	return api.Rex{Kind: api.RTimes, Lo: lo, Hi: hi, L: []api.Rex{x}}
}

// nested is a pattern within so many repeats.
func nested(x api.Rex, lo, hi, deep int) api.Rex {
	for range deep {
		x = repeat(x, lo, hi)
	}
	return x
}

// defs is the sets that patterns of these tests name: o has nothing, w all, v more than one of the letters, m marks.
const defs = "class a = 'a';class b = 'b';class v = 'a' | 'e' | 'i';class o = any - any;class w = any;class m = U+1;"

// left reads a pattern, and the file that it is of.
func left(t *testing.T, s string) (api.Rex, api.File) {
	t.Helper()
	f, at, e := syn.Parse(defs + "line 1 : " + s + " / ;")
	if e != api.OK {
		t.Fatalf("%.300s: %d: %v", s, at-len(defs), e)
	}
	return f.Rules[0].Left, f
}

// made makes x's positions.
func made(t *testing.T, x api.Rex, f api.File) api.Side {
	t.Helper()
	s, is := Make(x, f)
	if !is {
		t.Fatalf("P701: none of %.300s", syn.Rex(x))
	}
	return s
}

// rows tells of each Def of f, of each letter, whether it has it.
func rows(f api.File) [][]bool {
	sets := syn.Sets(f)
	cuts, letters := part.Cuts(sets)
	return part.In(sets, cuts, letters)
}

// number writes n; - for Inf.
func number(n int) string {
	if n == api.Inf {
		return "-"
	}
	return fmt.Sprint(n)
}

// numbers writes l.
func numbers(l []int) string {
	var words []string
	for _, n := range l {
		words = append(words, number(n))
	}
	return strings.Join(words, " ")
}

// said writes s: Sets, First, Ends, Arcs, None.
func said(s api.Side) string {
	var arcs []string
	for _, a := range s.Arcs {
		arcs = append(arcs, fmt.Sprintf("%d>%d:%s", a.From, a.To, number(a.W)))
	}
	return strings.Join([]string{numbers(s.Sets), numbers(s.First), numbers(s.Ends), strings.Join(arcs, " "), number(s.None)}, "; ")
}

// makes holds what Make tells of a pattern.
func makes(t *testing.T, pattern, want string) {
	t.Helper()
	x, f := left(t, pattern)
	if got := said(made(t, x, f)); got != want {
		t.Errorf("P701: Make of %.200q:\n%s, not\n%s", pattern, got, want)
	}
}

// dice throws.
type dice struct{ n uint64 }

func (d *dice) of(k int) int {
	d.n = d.n*6364136223846793005 + 1442695040888963407
	return int(d.n>>33) % k
}

// pick throws for one of l.
func pick[T any](d *dice, l ...T) T {
	return l[d.of(len(l))]
}

// rex throws a pattern, so deep at most, each repeat up to hi.
func (d *dice) rex(deep, hi int) api.Rex {
	if deep == 0 || d.of(6) == 0 {
		return pick(d, none(), dot(), set("a"), set("a"), set("b"), set("b"), set("v"), set("o"), set("w"))
	}
	x := d.rex(deep-1, hi)
	switch k := d.of(9); {
	case k < 3:
		return cat(x, d.rex(deep-1, hi))
	case k < 5:
		return alt(x, d.rex(deep-1, hi))
	case k == 5:
		lo := d.of(hi + 1)
		return repeat(x, lo, lo+d.of(hi+1-lo))
	case k < 8:
		return cost(x, pick(d, 0, 1, 1, 2, d.of(9), 1000, api.MaxW))
	}
	return many0(x)
}

// made throws a pattern whose positions can be made.
func (d *dice) made(deep, hi int) api.Rex {
	for {
		if x := d.rex(deep, hi); Size(x) <= api.MaxPos {
			return x
		}
	}
}

// text throws one of at most so many scalars.
func (d *dice) text(most int) []int {
	var l []int
	for range d.of(most + 1) {
		l = append(l, pick[int](d, 'a', 'a', 'b', 'b', 'e', 'q', 0, api.Last))
	}
	return l
}

// scalars tells those of s.
func scalars(s string) []int {
	var l []int
	for _, r := range s {
		l = append(l, int(r))
	}
	return l
}

// fewPatterns tells all patterns of depth deep, of few leaves.
func fewPatterns(deep int) []api.Rex {
	l := []api.Rex{none(), set("a"), dot()}
	if deep == 0 {
		return l
	}
	less := fewPatterns(deep - 1)
	for _, x := range less {
		l = append(l, many0(x), repeat(x, 0, 2), repeat(x, 2, 3), repeat(x, 0, 0), cost(x, 5))
		for _, y := range less {
			l = append(l, cat(x, y), alt(x, y))
		}
	}
	return l
}
