package back

import (
	"fmt"
	"testing"

	"hyphen/api"
	"hyphen/mean"
	"hyphen/part"
	"hyphen/side"
	"hyphen/syn"
)

// defs is the sets that patterns of these tests name: o has nothing.
const defs = "class a = 'a';class b = 'b';class v = 'a' | 'e';class o = any - any;"

// ready is a file's Rights, trimmed, and its letters.
type ready struct {
	f             api.File
	rights        []api.Side
	in            [][]bool
	cuts, letters []int
}

// parsed tells what Make is handed of Rules with these Rights.
func parsed(t *testing.T, rights ...string) ready {
	t.Helper()
	src := defs
	for i, pattern := range rights {
		src += fmt.Sprintf("line %d : / %s;", i, pattern)
	}
	f, at, e := syn.Parse(src)
	if e != api.OK {
		t.Fatalf("%s: %d: %v", src, at, e)
	}
	r := ready{f: f}
	sets := syn.Sets(f)
	r.cuts, r.letters = part.Cuts(sets)
	r.in = part.In(sets, r.cuts, r.letters)
	for _, rule := range f.Rules {
		s, is := side.Make(rule.Right, f)
		if !is {
			t.Fatalf("%s: no positions", src)
		}
		r.rights = append(r.rights, side.Trim(s, r.in))
	}
	return r
}

// lettered tells a text's letters.
func (r ready) lettered(text []int) []int {
	var l []int
	for _, n := range text {
		l = append(l, part.Letter(r.cuts, r.letters, n))
	}
	return l
}

// texts tells all of up to so many scalars.
func texts(most int) [][]int {
	l := [][]int{nil}
	for i := 0; i < len(l); i++ {
		if len(l[i]) < most {
			for _, n := range []int{'a', 'b', 'e', 'x'} {
				l = append(l, append([]int{n}, l[i]...))
			}
		}
	}
	return l
}

// checkRights holds what the machine tells, of all texts of up to so many scalars, against what the patterns say: a side holds where a match begins.
func checkRights(t *testing.T, r ready, most int) {
	t.Helper()
	b, sets, e := Make(r.rights, r.in, part.Count(r.letters), plenty)
	if e != api.OK || !isMachine(b, sets, part.Count(r.letters)) || !isOnce(sets) {
		t.Fatalf("P901: Make of %s: %v, %v, %v", syn.Text(r.f), b, sets, e)
	}
	for _, text := range texts(most) {
		for place, out := range Run(b, r.lettered(text)) {
			for i, rule := range r.f.Rules {
				if want := len(mean.Ends(rule.Right, r.f, text, place)) > 0; sets[out][i] != want {
					t.Fatalf("T1: of %s, %v at %d: %v, not %v", syn.Rex(rule.Right), text, place, sets[out][i], want)
				}
			}
		}
	}
}

// Patterns: where they match from is where they hold (T1, P901, P902).
func TestRightsOfPatterns(t *testing.T) {
	l := []string{"", "a", ".", "o", "v", "a b", "a | b", "a* b", "a*", "a a*", "(a b)*", "(a b)* v", "a{0,0}", "a{2,2}", "a{1,3} b", ". . .", ".* b", "a o | b", "(o | a) b", "(a | b a){1,2} v", "v a v", ".{2,2} a", "(. | )* a a"}
	for _, pattern := range l {
		checkRights(t, parsed(t, pattern), 5)
	}
	checkRights(t, parsed(t), 3)
	checkRights(t, parsed(t, l[:20]...), 4)
}

// pattern throws one.
func (d *dice) pattern(deep int) string {
	if deep == 0 || d.of(6) == 0 {
		return pick(d, "a", "b", "v", "o", ".", ".", "()")
	}
	x := d.pattern(deep - 1)
	switch d.of(5) {
	case 0, 1:
		return x + " " + d.pattern(deep-1)
	case 2:
		return "(" + x + " | " + d.pattern(deep-1) + ")"
	case 3:
		lo := d.of(3)
		return fmt.Sprintf("(%s){%d,%d}", x, lo, lo+d.of(3))
	}
	return "(" + x + ")*"
}

// Thrown ones, several side by side (T1, P901, P902).
func TestRightsOfThrown(t *testing.T) {
	d := &dice{17}
	for range 400 {
		var l []string
		for range d.of(4) {
			l = append(l, d.pattern(3))
		}
		checkRights(t, parsed(t, l...), 4)
	}
}
