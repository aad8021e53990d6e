package mini

import (
	"fmt"
	"slices"
	"strings"
	"testing"

	"hyphen/api"
	"hyphen/back"
	"hyphen/det"
	"hyphen/mean"
	"hyphen/part"
	"hyphen/side"
	"hyphen/syn"
)

// defs is the sets that patterns of these tests name: o has nothing.
const defs = "class a = 'a';class b = 'b';class v = 'a' | 'e';class o = any - any;"

// most is a budget that no machine of these tests needs.
const most = 50000

// pair is what Rules are made to, by chapters 9 and 10, then by this one.
type pair struct {
	f             api.File
	cuts, letters []int
	b             api.Back
	g             api.Fwd
	states        int // how many there were before, of both
}

// made makes it; false: rounds cost, or there are too many states.
func made(t *testing.T, rules ...string) (pair, bool) {
	t.Helper()
	src := defs + strings.Join(append(rules, ""), ";")
	f, at, e := syn.Parse(src)
	if e != api.OK {
		t.Fatalf("%s: %d: %v", src, at, e)
	}
	sets := syn.Sets(f)
	p := pair{f: f}
	p.cuts, p.letters = part.Cuts(sets)
	in, count := part.In(sets, p.cuts, p.letters), part.Count(p.letters)
	var lefts, rights []api.Side
	for _, r := range f.Rules {
		left, _ := side.Make(r.Left, f)
		right, _ := side.Make(r.Right, f)
		lefts, rights = append(lefts, side.Trim(left, in)), append(rights, side.Trim(right, in))
	}
	b, held, e := back.Make(rights, in, count, most)
	if e != api.OK {
		return p, false
	}
	g, e := det.Make(f.Rules, lefts, in, count, held, most)
	if e != api.OK {
		return p, false
	}
	p.b, _ = Back(b)
	p.g, _ = Fwd(g)
	p.states = len(b.Next) + len(g.Next)
	return p, true
}

// tell writes both machines.
func (p pair) tell() string {
	return tellBack(p.b) + "\n" + tellFwd(p.g)
}

// checkRules holds what both tell together, of all texts of up to so many scalars, against what the Rules say (T1).
func checkRules(t *testing.T, p pair, long int) {
	t.Helper()
	for _, picked := range words(4, long) {
		var text, l []int
		for _, which := range picked {
			text = append(text, []int{'a', 'b', 'e', 'x'}[which])
			l = append(l, part.Letter(p.cuts, p.letters, text[len(text)-1]))
		}
		if got, want := det.Run(p.g, l, back.Run(p.b, l)), mean.Breaks(p.f, text); !slices.Equal(got, want) {
			t.Fatalf("T1: of %s, over %v: %v, not %v", syn.Text(p.f), text, got, want)
		}
	}
}

// Two files that say the same are made to the same machines (P1103, T3).
func TestFilesThatSayTheSame(t *testing.T) {
	for _, x := range [][]string{
		{"line 2 : a a* / ", "line 2 : a* a / ", "line 2 : a* a | a / ", "line 2 : (a a*)* a / ", "line 2 : a{1,1} a* / "},
		{"line 2 : a / ", "line 2 : .* a / ", "line 2 : .{0,3} a / ", "line 2 : . a | a / "}, // a Left may begin anywhere
		{"line 2 : / a a* b", "line 2 : / a* a b", "line 2 : / (a a* | o) b", "line 2 : / a{1,3} b | a a* a b"},
		{"hyphen 0 : (a | b)* v / b", "hyphen 0 : (a* b*)* v / b | b", "hyphen 0 : (b | a)* v / b{1,1}", "hyphen 0 : ((a | b)* a | (a | b)* v) / b"},
		{"line 3 : v | . b / ; emergency 9 : / .", "line 3 : . b | v / ; emergency 9 : / . | o", "line 3 : (v | . b){1,1} / ; emergency 9 : / v | ."},
		{"line 1 : (a @ 2 | b) .* / a", "line 1 : (a | b) @ 2 .* | b .* / a", "line 0 : ((a @ 2 | b) @ 1) .* / a"},
		{"line 0 : o / a", "line 0 : o o / a", "line 7 : a o b / a"},
	} {
		want, is := made(t, x[0])
		if !is {
			t.Fatalf("%s: not made", x[0])
		}
		checkRules(t, want, 4)
		for _, other := range x[1:] {
			if got, is := made(t, other); !is || got.tell() != want.tell() {
				t.Errorf("T3: %s: %s; %s: %s", x[0], want.tell(), other, got.tell())
			}
		}
	}
	// What is there for nothing: fewer states stay.
	if p, _ := made(t, "line 0 : . . a | . b a | v . a / a a | a v"); p.states <= len(p.b.Next)+len(p.g.Next) {
		t.Errorf("P1101: of %d states all stay", p.states)
	}
}

// Files that do not say the same are not (P1103).
func TestFilesThatSayOther(t *testing.T) {
	met := map[string]string{}
	for _, rule := range []string{"line 2 : a / ", "line 3 : a / ", "hyphen 2 : a / ", "line 2 : a* / ", "line 2 : a a / ", "line 2 : . a / ", "line 2 : . . a / ", "line 2 : . . . a / ", "line 2 : a .{0,2} / ", "line 2 : a .{0,3} / ", "line 2 : / a", "line 2 : / b", "line 2 : / . . a", "line 2 : / . . . a", "line 2 : a / a", "line 2 : a @ 1 a / a"} {
		p, is := made(t, rule)
		if !is {
			t.Fatalf("%s: not made", rule)
		}
		if other, is := met[p.tell()]; is {
			t.Errorf("P1103: %s and %s: %s", rule, other, p.tell())
		}
		met[p.tell()] = rule
	}
}

// pattern throws one, and another way to write what it matches.
func (d *dice) pattern(deep int) (x, y string) {
	if deep == 0 || d.of(6) == 0 {
		x = pick(d, "a", "b", "v", "o", ".", ".", "()")
		return x, pick(d, x, x, "("+x+" | o)", "("+x+" | "+x+")", "("+x+"){1,1}", "() "+x)
	}
	x, y = d.pattern(deep - 1)
	other, same := d.pattern(deep - 1)
	switch d.of(5) {
	case 0, 1:
		return x + " " + other, y + " " + same
	case 2, 3:
		return "(" + x + " | " + other + ")", pick(d, "("+y+" | "+same+")", "("+same+" | "+y+")", "("+y+" | "+same+" | "+x+")")
	}
	return "(" + x + ")*", pick(d, "("+y+")*", "(() | "+y+")*", "(("+y+")*)*", "(("+y+") ("+x+")* | ())")
}

// Thrown ones (T1, T3, P1101, P1103).
func TestThrownFiles(t *testing.T) {
	d := &dice{59}
	held, fewer, wide := 0, 0, 0
	for range 700 {
		var l, k []string
		for range 1 + d.of(3) {
			head := fmt.Sprintf("%s %d : ", pick(d, "line", "hyphen", "emergency"), d.of(9))
			left, sameLeft := d.pattern(3)
			right, sameRight := d.pattern(2)
			cost := pick(d, "", "", " @ 4")
			l, k = append(l, head+"("+left+")"+cost+" / "+right), append(k, head+"("+sameLeft+")"+cost+" / "+sameRight)
		}
		p, is := made(t, l...)
		q, also := made(t, k...)
		if !is || !also {
			continue
		}
		held++
		if p.tell() != q.tell() {
			t.Fatalf("T3: %s: %s; %s: %s", l, p.tell(), k, q.tell())
		}
		checkRules(t, p, 4)
		if len(p.b.Next)+len(p.g.Next) < p.states {
			fewer++
		}
		if p.states != q.states {
			wide++
		}
	}
	if held < 500 || fewer < 100 || wide < 50 {
		t.Errorf("T3: only %d files were held, of %d fewer states stay, %d had another number of them", held, fewer, wide)
	}
}
