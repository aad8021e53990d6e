package syn

import (
	"fmt"
	"math"
	"slices"
	"strings"
	"testing"

	"hyphen/api"
)

// roomy is l with spare room behind, full of v.
func roomy[T any](l []T, v T) []T {
	return append(slices.Clone(l), v, v, v)[:len(l)]
}

// full is l with all its spare room.
func full[T any](l []T) []T {
	return l[:cap(l)]
}

// roomyClass, roomyRex are so all through.
func roomyClass(c api.Class) api.Class {
	c.L = roomy(c.L, named("spare"))
	for i := range c.L {
		c.L[i] = roomyClass(c.L[i])
	}
	return c
}

func roomyRex(x api.Rex) api.Rex {
	x.L = roomy(x.L, one("spare"))
	for i := range x.L {
		x.L[i] = roomyRex(x.L[i])
	}
	return x
}

func roomyFile(f api.File) api.File {
	f.Defs = roomy(f.Defs, api.Def{Name: "spare", C: all()})
	for i := range f.Defs {
		f.Defs[i].C = roomyClass(f.Defs[i].C)
	}
	f.Rules = roomy(f.Rules, api.Rule{Cat: 9, Left: one("spare")})
	for i := range f.Rules {
		f.Rules[i].Left, f.Rules[i].Right = roomyRex(f.Rules[i].Left), roomyRex(f.Rules[i].Right)
	}
	return f
}

// classLists, rexLists, lists: each list of f, with its spare room, as where it begins.
func classLists(c api.Class, at map[any]int) {
	if cap(c.L) > 0 {
		at[&full(c.L)[0]]++
	}
	for _, d := range c.L {
		classLists(d, at)
	}
}

func rexLists(x api.Rex, at map[any]int) {
	if cap(x.L) > 0 {
		at[&full(x.L)[0]]++
	}
	for _, y := range x.L {
		rexLists(y, at)
	}
}

func lists(f api.File) map[any]int {
	at := map[any]int{}
	if cap(f.Defs) > 0 {
		at[&full(f.Defs)[0]]++
	}
	for _, d := range f.Defs {
		classLists(d.C, at)
	}
	if cap(f.Rules) > 0 {
		at[&full(f.Rules)[0]]++
	}
	for _, r := range f.Rules {
		rexLists(r.Left, at)
		rexLists(r.Right, at)
	}
	return at
}

// told tells f, with all spare room, as a text.
func told(f api.File) string {
	var b strings.Builder
	var class func(c api.Class)
	class = func(c api.Class) {
		fmt.Fprint(&b, c.Kind, c.Lo, c.Hi, c.Name, len(c.L), "(")
		for _, d := range full(c.L) {
			class(d)
		}
		fmt.Fprint(&b, ")")
	}
	var rex func(x api.Rex)
	rex = func(x api.Rex) {
		fmt.Fprint(&b, x.Kind, x.Lo, x.Hi, x.W, x.Name, len(x.L), "(")
		for _, y := range full(x.L) {
			rex(y)
		}
		fmt.Fprint(&b, ")")
	}
	for _, d := range full(f.Defs) {
		fmt.Fprint(&b, d.Name)
		class(d.C)
	}
	for _, r := range full(f.Rules) {
		fmt.Fprint(&b, r.Cat, r.Cost)
		rex(r.Left)
		rex(r.Right)
	}
	return b.String()
}

// What is handed in, its spare room too, stays as it was, and is not read further than it goes (P2).
func TestHandedInStays(t *testing.T) {
	d := &dice{29}
	for range 500 {
		f := d.file()
		g := roomyFile(f)
		was := told(g)
		if Text(g) != Text(f) || !same(Sets(g), Sets(f)) {
			t.Fatalf("P2: of spare room: %s", Text(f))
		}
		for i, r := range g.Rules {
			if Rex(r.Left) != Rex(f.Rules[i].Left) {
				t.Fatalf("P2: of spare room: %s", Rex(r.Left))
			}
		}
		if told(g) != was {
			t.Fatalf("P2: %s left %s", was, told(g))
		}
	}
}

// What is answered is the asker's own, its spare room too, and no list of it is another's, too; nothing is kept (P2, P3).
func TestAnswersAreNew(t *testing.T) {
	f, _, _ := Parse(whole)
	for at, n := range lists(f) {
		if n > 1 {
			t.Errorf("P2: one list %d times: %v", n, at)
		}
	}
	spoil(f)
	reads(t, whole, wholeFile())
	g, _, _ := Parse("class a = any;class b = a & a;class c = a | b - a;line 5 : a a* @ 3 | b b{1,2} / a a | b b;")
	for at, n := range lists(g) {
		if n > 1 {
			t.Errorf("P2: one list %d times: %v", n, at)
		}
	}
	want := fmt.Sprint(Sets(wholeFile()))
	f = wholeFile()
	l := Sets(f)
	spoil(f)
	if got := fmt.Sprint(l); got != want {
		t.Errorf("P2: of spoilt rules: %s, not %s", got, want)
	}
}

// spoil writes over all lists of f, spare room too.
func spoil(f api.File) {
	var class func(l []api.Class)
	class = func(l []api.Class) {
		for i, c := range l {
			class(c.L)
			full(l)[i] = api.Class{Kind: 77, Name: "spoilt"}
		}
	}
	var rex func(l []api.Rex)
	rex = func(l []api.Rex) {
		for i, x := range l {
			rex(x.L)
			full(l)[i] = api.Rex{Kind: 77, Name: "spoilt"}
		}
	}
	for i, d := range f.Defs {
		class(d.C.L)
		f.Defs[i] = api.Def{Name: "spoilt"}
	}
	for i, r := range f.Rules {
		rex(r.Left.L)
		rex(r.Right.L)
		f.Rules[i] = api.Rule{Cat: 77}
	}
}

// No set of an answer shares memory with another one: of a name alone, of any, of nothing taken away, neither (P2).
func TestSetsAreApart(t *testing.T) {
	f, _, e := Parse("class a = 'a'..'c' | 'x';class b = a;class c = b;class d = (a);class e = a | a;class f = a & a;class g = a - 'q';class h = !!a;class i = any;class j = i;class k = any;class l = a & i;")
	if e != api.OK {
		t.Fatal(e)
	}
	want := fmt.Sprint(Sets(f))
	for i := range f.Defs {
		l := Sets(f)
		for k := range full(l[i]) {
			full(l[i])[k] = api.Range{Lo: -7, Hi: -9}
		}
		l[i] = nil
		fresh := Sets(f)
		if got := fmt.Sprint(fresh); got != want {
			t.Errorf("P2: a spoilt answer left %s", got)
		}
		fresh[i] = nil
		if fmt.Sprint(l) != fmt.Sprint(fresh) {
			t.Errorf("P2: set %d, spoilt, left %v", i, l)
		}
	}
}

// The same calls answer the same, whatever was asked between (P3); what went wrong leaves nothing behind (P5).
func TestTheSameAgain(t *testing.T) {
	texts := []string{whole, "", "class a = any;", "class a = a;", "line 5 : a / ;", abc + "line 5 : a / a @ 5;", strings.Repeat("(", 13), strings.Repeat(" ", 4001), abc}
	ask := func(s string) string {
		f, at, e := Parse(s)
		return fmt.Sprint(f, at, e, Text(f), Sets(f))
	}
	var first []string
	for _, s := range texts {
		first = append(first, ask(s))
	}
	for i, s := range slices.Backward(texts) {
		if got := ask(s); got != first[i] {
			t.Errorf("P3: %s, then %s", first[i], got)
		}
	}
}

// Beside an error all else is zero, how far ever it went (P4).
func TestBesideAnError(t *testing.T) {
	for i := range len(whole) {
		s := whole[:i] + "?" + whole[i+1:]
		f, at, e := Parse(s)
		if e == api.OK { // within quotes
			continue
		}
		if f.Defs != nil || f.Rules != nil || at < 0 || at > i {
			t.Errorf("P4: %s: %v, %d beside %v", s, f, at, e)
		}
	}
}

// oddClasses, oddRexes: what Parse does not tell.
func oddClasses() []api.Class {
	l := []api.Class{{}, {Kind: -1}, {Kind: 99, Name: "x", L: []api.Class{all()}}, span(5, 1), span(-5, 5), span(-9, -7), span(5, api.Last+9), span(math.MinInt, math.MaxInt), span(math.MaxInt, math.MinInt),
		named(""), named("a"), named("none"), named("\xff\x00"), {Kind: api.CName, Name: strings.Repeat("x", 100), L: []api.Class{all()}}}
	for k := api.CNot; k <= api.CLess; k++ {
		l = append(l, api.Class{Kind: k}, api.Class{Kind: k, L: []api.Class{}}, api.Class{Kind: k, L: []api.Class{all()}}, api.Class{Kind: k, L: []api.Class{{}, {Kind: k}, all()}})
	}
	return l
}

func oddRexes() []api.Rex {
	l := []api.Rex{{}, {Kind: -1}, {Kind: 99, Name: "x", L: []api.Rex{dot()}}, one(""), one("none"), one("\xff\x00"), times(dot(), -5, math.MinInt), times(dot(), math.MaxInt, 3), cost(dot(), math.MinInt), cost(dot(), -1)}
	for k := api.RNone; k <= api.RWeight; k++ {
		l = append(l, api.Rex{Kind: k}, api.Rex{Kind: k, L: []api.Rex{}}, api.Rex{Kind: k, L: []api.Rex{dot()}}, api.Rex{Kind: k, L: []api.Rex{{}, {Kind: k}, dot()}})
	}
	return l
}

// Of what may not be handed in nothing is promised but an end, and that it stays as it was (P1, P2, P8).
func TestHandedInWhereItMayNotBe(t *testing.T) {
	for _, c := range oddClasses() {
		for k := range 9 {
			f := api.File{Defs: []api.Def{{Name: "a", C: api.Class{Kind: k, L: []api.Class{c, c}}}, {Name: "a", C: c}, {}, {Name: "line", C: not(c)}}}
			was := told(f)
			Text(f)
			Sets(f)
			if told(f) != was {
				t.Errorf("P2: %s left %s", was, told(f))
			}
		}
	}
	for _, x := range oddRexes() {
		for k := range 10 {
			y := api.Rex{Kind: k, L: []api.Rex{x, x}}
			f := api.File{Rules: []api.Rule{{Cat: -1, Cost: -7, Left: x, Right: y}, {Cat: 3, Cost: math.MaxInt, Left: y}, {Cat: math.MinInt}}}
			was := told(f)
			Text(f)
			Sets(f)
			Rex(y)
			if told(f) != was {
				t.Errorf("P2: %s left %s", was, told(f))
			}
		}
	}
	many := make([]api.Def, 300)
	Sets(api.File{Defs: many})
	Text(api.File{Defs: many, Rules: make([]api.Rule, 300)})
}

// Parse ends, whatever it is given (P1).
func TestAnyBytes(t *testing.T) {
	d := &dice{31}
	for range 3000 {
		s := ""
		for range d.of(60) {
			s += pick(d, string([]byte{byte(d.of(256))}), pick(d, wholeSigns()...), whole[d.of(len(whole)):][:1])
		}
		f, at, e := Parse(s)
		if at < 0 || at > len(s) || e == api.OK && at != 0 || e != api.OK && (f.Defs != nil || f.Rules != nil) {
			t.Errorf("P4: %q: %v, %d, %v", s, f, at, e)
		}
	}
}
