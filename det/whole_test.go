package det

import (
	"fmt"
	"slices"
	"testing"

	"hyphen/api"
	"hyphen/back"
	"hyphen/mean"
	"hyphen/part"
	"hyphen/side"
	"hyphen/syn"
	"hyphen/trop"
	"hyphen/twin"
)

// defs is the sets that patterns of these tests name: o has nothing.
const defs = "class a = 'a';class b = 'b';class v = 'a' | 'e';class o = any - any;"

// ready is a file's sides, trimmed, and its letters.
type ready struct {
	f             api.File
	lefts, rights []api.Side
	in            [][]bool
	cuts, letters []int
}

// trimmed tells a pattern's positions.
func (r ready) trimmed(t *testing.T, x api.Rex) api.Side {
	t.Helper()
	s, is := side.Make(x, r.f)
	if !is {
		t.Fatalf("%s: no positions", syn.Rex(x))
	}
	return side.Trim(s, r.in)
}

// parsed tells what Make is handed of these Rules; false: a Left has a round that costs.
func parsed(t *testing.T, rules ...string) (ready, bool) {
	t.Helper()
	src := defs
	for _, rule := range rules {
		src += rule + ";"
	}
	f, at, e := syn.Parse(src)
	if e != api.OK {
		t.Fatalf("%s: %d: %v", src, at, e)
	}
	r := ready{f: f}
	sets := syn.Sets(f)
	r.cuts, r.letters = part.Cuts(sets)
	r.in = part.In(sets, r.cuts, r.letters)
	for _, rule := range f.Rules {
		r.lefts, r.rights = append(r.lefts, r.trimmed(t, rule.Left)), append(r.rights, r.trimmed(t, rule.Right))
	}
	costs := slices.ContainsFunc(r.lefts, func(s api.Side) bool { _, is := twin.Round(s); return is })
	return r, !costs
}

// lettered tells a text's letters.
func (r ready) lettered(text []int) []int {
	var l []int
	for _, n := range text {
		l = append(l, part.Letter(r.cuts, r.letters, n))
	}
	return l
}

// texts tells all of up to so many scalars.
func texts(most int) [][]int {
	l := [][]int{nil}
	for i := 0; i < len(l); i++ {
		if len(l[i]) < most {
			for _, n := range []int{'a', 'b', 'e', 'x'} {
				l = append(l, append(slices.Clone(l[i]), n))
			}
		}
	}
	return l
}

// checkRules holds what both machines tell together, of all texts of up to so many scalars, against what the Rules say; it tells how many places there are at which it may be broken.
func checkRules(t *testing.T, r ready, most int) int {
	t.Helper()
	letters := part.Count(r.letters)
	b, sets, e := back.Make(r.rights, r.in, letters, plenty)
	if e != api.OK {
		t.Fatalf("%s: %v", syn.Text(r.f), e)
	}
	f, e := Make(r.f.Rules, r.lefts, r.in, letters, sets, plenty)
	if e != api.OK || !isMachine(f, letters, len(sets)) {
		t.Fatalf("P1001: Make of %s: %v, %v", syn.Text(r.f), f, e)
	}
	breaks := 0
	for _, text := range texts(most) {
		l := r.lettered(text)
		got, want := Run(f, l, back.Run(b, l)), mean.Breaks(r.f, text)
		if !slices.Equal(got, want) {
			t.Fatalf("T1: of %s, over %v: %s, not %s", syn.Text(r.f), text, tellVecs(got), tellVecs(want))
		}
		for _, v := range want {
			if v != trop.None() {
				breaks++
			}
		}
	}
	return breaks
}

// Patterns: what breaking costs is what chapter 6 says (T1, P1001, P1002).
func TestLeftsOfPatterns(t *testing.T) {
	lefts := []string{"", "a", ".", "o", "v", "a b", "a | b", "a* b", "a*", "a a*", "(a b)*", "(a b)* v", "a{0,0}", "a{2,2}", "a{1,3} b", ". . .", ".* b", "a o | b", "(o | a) b", "v a v", ".{2,2} a", "(. | )* a a", "a @ 3", "() @ 3", "(a @ 1 | v @ 2) b", "a* @ 4 | b @ 1", "(a @ 1){1,3}", "(a @ 1 b | a b @ 2 | a (v | b) @ 5){1,2}", "(a @ 3 .* | b) @ 1", "(a @ 3 | b) .* | .", "(a | ) @ 2 (b | ) @ 1", "(a | () @ 2){2,2}"}
	for _, left := range lefts {
		for _, rule := range []string{"line 2 : %s / ", "hyphen 0 : %s / b", "emergency 7 : %s / a | o"} {
			r, is := parsed(t, fmt.Sprintf(rule, left))
			if !is {
				t.Fatalf("%s: a round that costs", left)
			}
			checkRules(t, r, 4)
		}
	}
	r, _ := parsed(t)
	checkRules(t, r, 3)
	var all []string
	for i, left := range lefts[:api.MaxRules] {
		all = append(all, fmt.Sprintf("%s %d : %s / %s", []string{"line", "hyphen", "emergency"}[i%3], i, left, []string{"", "b", ".", "a"}[i%4]))
	}
	r, _ = parsed(t, all...)
	checkRules(t, r, 4)
}

// pattern throws one; a Left's may cost.
func (d *dice) pattern(deep int, left bool) string {
	if deep == 0 || d.of(6) == 0 {
		return pick(d, "a", "b", "v", "o", ".", ".", "()")
	}
	x := d.pattern(deep-1, left)
	switch k := d.of(6); {
	case k < 2:
		return x + " " + d.pattern(deep-1, left)
	case k == 2:
		return "(" + x + " | " + d.pattern(deep-1, left) + ")"
	case k == 3:
		lo := d.of(3)
		return fmt.Sprintf("(%s){%d,%d}", x, lo, lo+d.of(3))
	case k == 4 && left:
		return fmt.Sprintf("(%s) @ %d", x, d.of(5))
	}
	return "(" + x + ")*"
}

// Thrown ones, several side by side (T1, P1001, P1002).
func TestLeftsOfThrown(t *testing.T) {
	d := &dice{17}
	held, breaks := 0, 0
	for range 700 {
		var l []string
		for range d.of(5) {
			l = append(l, fmt.Sprintf("%s %d : %s / %s", pick(d, "line", "hyphen", "emergency"), d.of(9), d.pattern(3, true), d.pattern(2, false)))
		}
		if r, is := parsed(t, l...); is {
			held++
			breaks += checkRules(t, r, 4)
		}
	}
	if held < 300 || breaks < 100000 {
		t.Errorf("T1: only %d files were held, and %d places at which it may be broken", held, breaks)
	}
}
