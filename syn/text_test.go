package syn

import (
	"strings"
	"testing"

	"hyphen/api"
)

// How patterns are written.
func TestRex(t *testing.T) {
	a, b, c := one("a"), one("b"), one("abcdefghijkl")
	for want, x := range map[string]api.Rex{
		"()": none(), "a": a, "abcdefghijkl": c, "any": dot(),
		"a b": cat(a, b), "a | b": alt(a, b), "a*": star(a), "a{0,12}": times(a, 0, 12), "a{7,7}": times(a, 7, 7), "a @ 0": cost(a, 0), "any @ 1000000": cost(dot(), api.MaxW),
		"() ()": cat(none(), none()), "() | ()": alt(none(), none()), "()*": star(none()), "(){1,2}": times(none(), 1, 2), "() @ 5": cost(none(), 5),
		"any*": star(dot()), "any any": cat(dot(), dot()), "any{1,2}": times(dot(), 1, 2), "any | a": alt(dot(), a),
		"(a b) abcdefghijkl": cat(cat(a, b), c), "a (b a)": cat(a, cat(b, a)), "(a | b) | a": alt(alt(a, b), a), "a | (b | a)": alt(a, alt(b, a)),
		"(a b) | (b a)": alt(cat(a, b), cat(b, a)), "(a | b) (b | a)": cat(alt(a, b), alt(b, a)), "a (b*)": cat(a, star(b)), "(a*) b": cat(star(a), b),
		"(a b)*": star(cat(a, b)), "(a*)*": star(star(a)), "(a | b)*": star(alt(a, b)), "(a{1,2})*": star(times(a, 1, 2)), "(a @ 5)*": star(cost(a, 5)),
		"(a*){1,2}": times(star(a), 1, 2), "(a b){1,2}": times(cat(a, b), 1, 2), "(a @ 5){0,0}": times(cost(a, 5), 0, 0), "(a{1,2}){3,4}": times(times(a, 1, 2), 3, 4),
		"(a*) @ 5": cost(star(a), 5), "(a b) @ 5": cost(cat(a, b), 5), "(a | b) @ 5": cost(alt(a, b), 5), "(a @ 5) @ 6": cost(cost(a, 5), 6), "(a{1,2}) @ 5": cost(times(a, 1, 2), 5),
		"(a @ 5) b": cat(cost(a, 5), b), "a | (b @ 5)": alt(a, cost(b, 5)), "(a{1,2}) (b{3,4})": cat(times(a, 1, 2), times(b, 3, 4)), "(((() a) any)*) @ 9": cost(star(cat(cat(none(), a), dot())), 9),
	} {
		if got := Rex(x); got != want {
			t.Errorf("P502: %s, not %s", got, want)
		}
		f := api.File{Rules: []api.Rule{{Cat: 0, Cost: 5, Left: x, Right: none()}}}
		if got := Text(f); got != "line 5 : "+want+" / ();\n" {
			t.Errorf("P502: Text: %s, not %s", got, want)
		}
	}
}

// How sets are written.
func TestTextOfClasses(t *testing.T) {
	x, y := named("x"), span('a', 'z')
	for want, c := range map[string]api.Class{
		"x": x, "any": all(), "U+61..U+7A": y, "U+0": span(0, 0), "U+0..U+10FFFF": span(0, api.Last), "U+A..U+F": span(10, 15), "U+10": span(16, 16),
		"U+D800..U+DFFF": span(0xd800, 0xdfff), "U+ABCDE..U+FEDCB": span(0xabcde, 0xfedcb), "U+61..U+62": span('a', 'b'), "U+10FFFF": span(api.Last, api.Last),
		"x | U+61..U+7A": two(api.COr, x, y), "x - any": two(api.CLess, x, all()), "x & x": two(api.CAnd, x, x), "!x": not(x), "!any": not(all()), "!U+61..U+7A": not(y), "!U+61": not(span('a', 'a')),
		"!(!x)": not(not(x)), "!(x | x)": not(two(api.COr, x, x)), "(!x) & x": two(api.CAnd, not(x), x), "x & (!x)": two(api.CAnd, x, not(x)),
		"(x | x) | x": two(api.COr, two(api.COr, x, x), x), "x | (x | x)": two(api.COr, x, two(api.COr, x, x)), "(x & x) - (x | x)": two(api.CLess, two(api.CAnd, x, x), two(api.COr, x, x)),
		"x - (x - x)": two(api.CLess, x, two(api.CLess, x, x)), "(x - x) & (x & x)": two(api.CAnd, two(api.CLess, x, x), two(api.CAnd, x, x)),
	} {
		f := api.File{Defs: []api.Def{{Name: "x", C: all()}, {Name: "abcdefghijkl", C: c}}}
		if got := Text(f); got != "class x = any;\nclass abcdefghijkl = "+want+";\n" {
			t.Errorf("P502: %s, not %s", got, want)
		}
	}
}

// How rules are written.
func TestText(t *testing.T) {
	if got := Text(api.File{}); got != "" {
		t.Errorf("P502: of nothing: %q", got)
	}
	want := `class a = (U+61..U+7A | U+E9) - (U+71 & (!any));
class b = !a;
line 7 : (((a b) | any)*) ((any{2,3}) @ 5) / (a{0,1})*;
hyphen 0 : () / b;
emergency 1000000 : a | () / ();
`
	if got := Text(wholeFile()); got != want {
		t.Errorf("P502: %s, not %s", got, want)
	}
	f := wholeFile()
	f.Defs = nil
	if got := Text(f); got != want[strings.Index(want, "line"):] {
		t.Errorf("P502: Rules alone: %s", got)
	}
	f = wholeFile()
	f.Rules = nil
	if got := Text(f); got != want[:strings.Index(want, "line")] {
		t.Errorf("P502: Defs alone: %s", got)
	}
}

// What Text writes is read as it was, where it is no longer and no deeper than may be (P503).
func TestReadAsItWas(t *testing.T) {
	d := &dice{11}
	short, deep := 0, 0
	for range 20000 {
		f := d.file()
		s := Text(f)
		switch {
		case len(s) > api.MaxSrc:
			wrongAt(t, s, 0, api.Large)
		case nested(s) > api.MaxDeep:
			deep++
			if _, _, e := Parse(s); e != api.Large {
				t.Fatalf("P501: so deep: %v: %s", e, s)
			}
		default:
			short++
			reads(t, s, f)
			g, _, _ := Parse(s)
			if got := Text(g); got != s {
				t.Errorf("P503: %s, then %s", s, got)
			}
		}
		if t.Failed() {
			return
		}
	}
	if short < 10000 {
		t.Errorf("no more than %d of them were short; %d were deep", short, deep)
	}
}

// At the bound: brackets and nots 12 deep in what Text writes are read, 13 deep they are not.
func TestReadAsDeepAsMayBe(t *testing.T) {
	x, c, nots := star(dot()), not(all()), all()
	for deep := range 30 {
		f := api.File{
			Defs:  []api.Def{{Name: "a", C: c}},
			Rules: []api.Rule{{Cat: 0, Cost: 5, Left: x, Right: x}},
		}
		// A not within nots has brackets of its own.
		if s := Text(f); nested(s) <= api.MaxDeep {
			reads(t, s, f)
		} else if _, _, e := Parse(s); e != api.Large {
			t.Errorf("P501: %d deep: %v", deep, e)
		}
		x, c, nots = star(x), two(api.COr, c, all()), not(nots)
		f = api.File{Defs: []api.Def{{Name: "a", C: nots}}}
		if s := Text(f); nested(s) <= api.MaxDeep {
			reads(t, s, f)
		} else if _, _, e := Parse(s); e != api.Large {
			t.Errorf("P501: %d deep: %v", deep, e)
		}
	}
	if got, want := nested(Text(api.File{Rules: []api.Rule{{Left: x}}})), 30; got != want {
		t.Errorf("%d deep, not %d", got, want)
	}
	if got := nested("class a = !(!(any));"); got != 4 {
		t.Errorf("%d deep, not 4", got)
	}
}

// Patterns and sets 1000 deep are written.
func TestWrittenDeep(t *testing.T) {
	const deep = 1000
	x, c := one("a"), named("a")
	for range deep {
		x, c = star(x), not(c)
	}
	want := strings.Repeat("(", deep-1) + "a" + strings.Repeat("*)", deep-1) + "*"
	if got := Rex(x); got != want {
		t.Errorf("P502: so deep: %s", got)
	}
	f := api.File{Defs: []api.Def{{Name: "a", C: all()}, {Name: "b", C: c}}, Rules: []api.Rule{{Cat: 2, Left: x, Right: x}}}
	nots := strings.Repeat("!(", deep-1) + "!a" + strings.Repeat(")", deep-1)
	if got := Text(f); got != "class a = any;\nclass b = "+nots+";\nemergency 0 : "+want+" / "+want+";\n" {
		t.Errorf("P502: so deep: %s", got)
	}
	if got := Sets(f); !same(got[1], got[0]) {
		t.Errorf("P502: so deep: %v", got)
	}
	// Parse tells deeper ones.
	g, _, _ := Parse("class a = any;line 5 : a" + strings.Repeat("*", 3900) + " / ;")
	if got := Rex(g.Rules[0].Left); got != strings.Repeat("(", 3899)+"a"+strings.Repeat("*)", 3899)+"*" {
		t.Errorf("P502: so deep: %s", got)
	}
}
