package syn

import (
	"fmt"
	"strings"
	"testing"

	"hyphen/api"
)

// Short ways to write sets and patterns.

func span(lo, hi int) api.Class           { return api.Class{Kind: api.CRange, Lo: lo, Hi: hi} }
func named(name string) api.Class         { return api.Class{Kind: api.CName, Name: name} }
func all() api.Class                      { return api.Class{Kind: api.CAny} }
func not(c api.Class) api.Class           { return api.Class{Kind: api.CNot, L: []api.Class{c}} }
func two(k int, a, b api.Class) api.Class { return api.Class{Kind: k, L: []api.Class{a, b}} }

func none() api.Rex            { return api.Rex{Kind: api.RNone} }
func one(name string) api.Rex  { return api.Rex{Kind: api.RSet, Name: name} }
func dot() api.Rex             { return api.Rex{Kind: api.RAny} }
func cat(a, b api.Rex) api.Rex { return api.Rex{Kind: api.RCat, L: []api.Rex{a, b}} }
func alt(a, b api.Rex) api.Rex { return api.Rex{Kind: api.RAlt, L: []api.Rex{a, b}} }
func star(x api.Rex) api.Rex   { return api.Rex{Kind: api.RStar, L: []api.Rex{x}} }
func cost(x api.Rex, w int) api.Rex {
	return api.Rex{Kind: api.RWeight, W: w, L: []api.Rex{x}}
}
func times(x api.Rex, lo, hi int) api.Rex {
	return api.Rex{Kind: api.RTimes, Lo: lo, Hi: hi, L: []api.Rex{x}}
}

// abc is three Defs, as they are written for patterns.
const abc = "class a = 'a';class b = 'b';class c = 'c';"

// abcDefs is what abc says.
func abcDefs() []api.Def {
	return []api.Def{{Name: "a", C: span('a', 'a')}, {Name: "b", C: span('b', 'b')}, {Name: "c", C: span('c', 'c')}}
}

// same tells whether both are the same; of lists nil and an empty one are.
func same(a, b any) bool {
	return fmt.Sprintf("%+v", a) == fmt.Sprintf("%+v", b)
}

// reads holds that s is read as want, and that nothing stands beside it.
func reads(t *testing.T, s string, want api.File) {
	t.Helper()
	f, at, e := Parse(s)
	if !same(f, want) || at != 0 || e != api.OK {
		t.Errorf("P501: %.300q: %+v, %d, %v, not %+v", s, f, at, e, want)
	}
}

// fine holds that s has no fault.
func fine(t *testing.T, s string) {
	t.Helper()
	if _, at, e := Parse(s); at != 0 || e != api.OK {
		t.Errorf("P501: %.300q: %d, %v", s, at, e)
	}
}

// wrongAt holds that the first fault of s is want, at that place, and that nothing was read beside it.
func wrongAt(t *testing.T, s string, place int, want api.Errno) {
	t.Helper()
	f, at, e := Parse(s)
	if at != place || e != want {
		t.Errorf("P501: %.300q: %d, %v, not %d, %v", s, at, e, place, want)
	}
	if e != api.OK && (f.Defs != nil || f.Rules != nil) {
		t.Errorf("P4: %.300q: %v beside %v", s, f, e)
	}
}

// wrong holds that marked, without its mark ^, has its first fault, want, where the mark stands.
func wrong(t *testing.T, marked string, want api.Errno) {
	t.Helper()
	ahead, behind, is := strings.Cut(marked, "^")
	if !is {
		t.Fatalf("no mark: %q", marked)
	}
	wrongAt(t, ahead+behind, len(ahead), want)
}

// wrongLeft, wrongRight: so of a pattern.
func wrongLeft(t *testing.T, marked string, want api.Errno) {
	t.Helper()
	wrong(t, abc+"line 7 : "+marked, want)
}

func wrongRight(t *testing.T, marked string, want api.Errno) {
	t.Helper()
	wrong(t, abc+"line 7 : a / "+marked, want)
}

// wrongClass: so of a set, behind x and y.
func wrongClass(t *testing.T, marked string, want api.Errno) {
	t.Helper()
	wrong(t, "class x = 'x';class y = any;class z = "+marked, want)
}

// dice throws.
type dice struct{ n uint64 }

func (d *dice) of(k int) int {
	d.n = d.n*6364136223846793005 + 1442695040888963407
	return int(d.n>>33) % k
}

// pick throws for one of l.
func pick[T any](d *dice, l ...T) T {
	return l[d.of(len(l))]
}

// class throws a set over names, so deep at most.
func (d *dice) class(names []string, deep int) api.Class {
	if deep == 0 || d.of(4) == 0 {
		switch k := d.of(4); {
		case k == 0:
			return all()
		case k < 3 && len(names) > 0:
			return named(pick(d, names...))
		}
		lo := pick(d, 0, d.of(128), d.of(0x3000), 0xd7ff, 0xd800, 0xdfff, 0x10000, d.of(api.Last+1), api.Last)
		return span(lo, min(api.Last, lo+pick(d, 0, 0, 1, d.of(30), d.of(0x20000))))
	}
	if d.of(4) == 0 {
		return not(d.class(names, deep-1))
	}
	return two(pick(d, api.COr, api.CAnd, api.CLess), d.class(names, deep-1), d.class(names, deep-1))
}

// rex throws a pattern over names, so deep at most.
func (d *dice) rex(names []string, deep int, weighs bool) api.Rex {
	if deep == 0 || d.of(4) == 0 {
		if k := d.of(6); k < 4 && len(names) > 0 {
			return one(pick(d, names...))
		}
		return pick(d, none(), dot(), dot())
	}
	k := d.of(8)
	x := d.rex(names, deep-1, weighs)
	switch {
	case k < 3:
		return cat(x, d.rex(names, deep-1, weighs))
	case k < 5:
		return alt(x, d.rex(names, deep-1, weighs))
	case k == 5:
		lo := d.of(13)
		return times(x, lo, lo+d.of(13-lo))
	case k == 6 && weighs:
		return cost(x, pick(d, 0, 1, d.of(api.MaxW), api.MaxW))
	}
	return star(x)
}

// file throws rules, as Parse may tell them.
func (d *dice) file() api.File {
	var f api.File
	var names []string
	for i := range d.of(6) {
		name := pick(d, "a", "zz9", "emergency1", "lines", "anyhow", "c2345678901") + pick(d, "x", "7", "")
		if defined(f.Defs, name) >= 0 || name == "any" {
			name = "n" + string(rune('a'+i))
		}
		f.Defs = append(f.Defs, api.Def{Name: name, C: d.class(names, d.of(5))})
		names = append(names, name)
	}
	for range d.of(6) {
		f.Rules = append(f.Rules, api.Rule{
			Cat: d.of(3), Cost: pick(d, 0, 7, d.of(1000), api.MaxW), Left: d.rex(names, d.of(6), true), Right: d.rex(names, d.of(6), false),
		})
	}
	return f
}

// nested tells how many brackets and nots of a text that Text wrote are within one another at most.
// A not there is right ahead of what it is for: a name, a range, any, or brackets.
func nested(s string) int {
	most, brackets, nots := 0, 0, []int{0} // nots: of each open bracket, and ahead of all, those that are not done
	for i := range len(s) {
		last := len(nots) - 1
		switch s[i] {
		case '!':
			nots[last]++
		case '(':
			brackets, nots = brackets+1, append(nots, 0)
		case ')':
			brackets, nots = brackets-1, nots[:last]
			nots[last-1] = 0
		case ' ', ';':
			nots[last] = 0
		}
		deep := brackets
		for _, n := range nots {
			deep += n
		}
		most = max(most, deep)
	}
	return most
}
