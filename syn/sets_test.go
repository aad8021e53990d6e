package syn

import (
	"testing"

	"hyphen/api"
	"hyphen/set"
)

// sets holds what Sets tells of s, a set behind a and b, against want.
func sets(t *testing.T, s string, want ...api.Range) {
	t.Helper()
	f, _, e := Parse("class a = 'a'..'f';class b = 'd'..'k' | 'x';class k = " + s + ";")
	if e != api.OK {
		t.Fatalf("%s: %v", s, e)
	}
	l := Sets(f)
	if len(l) != 3 || !same(l[0], []api.Range{{Lo: 'a', Hi: 'f'}}) || !same(l[1], []api.Range{{Lo: 'd', Hi: 'k'}, {Lo: 'x', Hi: 'x'}}) || !same(l[2], want) {
		t.Errorf("P502: Sets: %s: %v, not %v", s, l, want)
	}
}

func TestSets(t *testing.T) {
	const last = api.Last
	if got := Sets(api.File{}); len(got) != 0 {
		t.Errorf("P502: Sets of nothing: %v", got)
	}
	sets(t, "'q'", api.Range{Lo: 'q', Hi: 'q'})
	sets(t, "a", api.Range{Lo: 'a', Hi: 'f'})
	sets(t, "b", api.Range{Lo: 'd', Hi: 'k'}, api.Range{Lo: 'x', Hi: 'x'})
	sets(t, "any", api.Range{Lo: 0, Hi: last})
	sets(t, "!any")
	sets(t, "!!any", api.Range{Lo: 0, Hi: last})
	sets(t, "U+0", api.Range{Lo: 0, Hi: 0})
	sets(t, "!U+0", api.Range{Lo: 1, Hi: last})
	sets(t, "U+10FFFF", api.Range{Lo: last, Hi: last})
	sets(t, "!U+10FFFF", api.Range{Lo: 0, Hi: last - 1})
	sets(t, "!(U+1..U+10FFFE)", api.Range{Lo: 0, Hi: 0}, api.Range{Lo: last, Hi: last})
	sets(t, "a | b", api.Range{Lo: 'a', Hi: 'k'}, api.Range{Lo: 'x', Hi: 'x'})
	sets(t, "b | a", api.Range{Lo: 'a', Hi: 'k'}, api.Range{Lo: 'x', Hi: 'x'})
	sets(t, "a & b", api.Range{Lo: 'd', Hi: 'f'})
	sets(t, "a - b", api.Range{Lo: 'a', Hi: 'c'})
	sets(t, "b - a", api.Range{Lo: 'g', Hi: 'k'}, api.Range{Lo: 'x', Hi: 'x'})
	sets(t, "a - a")
	sets(t, "a & !a")
	sets(t, "a | !a", api.Range{Lo: 0, Hi: last})
	sets(t, "a - b | 'f'", api.Range{Lo: 'a', Hi: 'c'}, api.Range{Lo: 'f', Hi: 'f'})
	sets(t, "a - (b | 'a')", api.Range{Lo: 'b', Hi: 'c'})
	sets(t, "a | b & 'x'", api.Range{Lo: 'a', Hi: 'f'}, api.Range{Lo: 'x', Hi: 'x'})
	sets(t, "'c' | 'a' | 'b'", api.Range{Lo: 'a', Hi: 'c'})
	sets(t, "'a'..'c' | 'd'..'f'", api.Range{Lo: 'a', Hi: 'f'})
	sets(t, "'c' | 'a'", api.Range{Lo: 'a', Hi: 'a'}, api.Range{Lo: 'c', Hi: 'c'})
	// D800 to DFFF are numbers as others are.
	sets(t, "U+D800..U+DFFF", api.Range{Lo: 0xd800, Hi: 0xdfff})
	sets(t, "any - U+D800..U+DFFF", api.Range{Lo: 0, Hi: 0xd7ff}, api.Range{Lo: 0xe000, Hi: last})
	sets(t, "!(U+0..U+D7FF | U+E000..U+10FFFF)", api.Range{Lo: 0xd800, Hi: 0xdfff})
	sets(t, "U+D000..U+D900 & U+D8FF..U+F000", api.Range{Lo: 0xd8ff, Hi: 0xd900})
}

// has tells in the plainest words whether n is in c.
func has(f api.File, c api.Class, n int) bool {
	switch c.Kind {
	case api.CRange:
		return c.Lo <= n && n <= c.Hi
	case api.CName:
		return has(f, f.Defs[defined(f.Defs, c.Name)].C, n)
	case api.CNot:
		return !has(f, c.L[0], n)
	case api.COr:
		return has(f, c.L[0], n) || has(f, c.L[1], n)
	case api.CAnd:
		return has(f, c.L[0], n) && has(f, c.L[1], n)
	case api.CLess:
		return has(f, c.L[0], n) && !has(f, c.L[1], n)
	}
	return true
}

// edges gathers the numbers at which c may change, and those beside them.
func edges(c api.Class) []int {
	l := []int{0, api.Last}
	if c.Kind == api.CRange {
		for _, n := range []int{c.Lo - 1, c.Lo, c.Hi, c.Hi + 1} {
			l = append(l, min(max(n, 0), api.Last))
		}
	}
	for _, d := range c.L {
		l = append(l, edges(d)...)
	}
	return l
}

// Sets of any make tell what their words say.
func TestSetsThrown(t *testing.T) {
	d := &dice{17}
	for range 3000 {
		f := d.file()
		l := Sets(f)
		if len(l) != len(f.Defs) {
			t.Fatalf("P502: %d Sets of %d Defs", len(l), len(f.Defs))
		}
		var asked []int
		for i := range l {
			asked = append(asked, edges(f.Defs[i].C)...)
			for _, r := range l[i] {
				asked = append(asked, max(r.Lo-1, 0), r.Lo, r.Hi, min(r.Hi+1, api.Last))
			}
		}
		for i, c := range f.Defs {
			if !set.Right(l[i]) {
				t.Fatalf("P502: Sets: %v is not Right", l[i])
			}
			for _, n := range asked {
				if set.Has(l[i], n) != has(f, c.C, n) {
					t.Fatalf("P502: Sets: %s: %s: %d: %v", Text(f), c.Name, n, l[i])
				}
			}
		}
	}
}
