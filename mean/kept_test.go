package mean

import (
	"fmt"
	"math"
	"slices"
	"strings"
	"testing"

	"hyphen/api"
)

// roomy is l with spare room behind, full of v.
func roomy[T any](l []T, v T) []T {
	return append(slices.Clone(l), v, v, v)[:len(l)]
}

// full is l with all its spare room.
func full[T any](l []T) []T {
	return l[:cap(l)]
}

// roomyRex is x so all through.
func roomyRex(x api.Rex) api.Rex {
	x.L = roomy(x.L, dot())
	for i := range x.L {
		x.L[i] = roomyRex(x.L[i])
	}
	return x
}

// roomyClass is c so all through.
func roomyClass(c api.Class) api.Class {
	c.L = roomy(c.L, api.Class{Kind: api.CAny})
	for i := range c.L {
		c.L[i] = roomyClass(c.L[i])
	}
	return c
}

// roomyFile is f so all through.
func roomyFile(f api.File) api.File {
	f.Defs = roomy(f.Defs, api.Def{Name: "spare", C: api.Class{Kind: api.CAny}})
	for i := range f.Defs {
		f.Defs[i].C = roomyClass(f.Defs[i].C)
	}
	f.Rules = roomy(f.Rules, api.Rule{Left: none(), Right: none()})
	for i := range f.Rules {
		f.Rules[i].Left, f.Rules[i].Right = roomyRex(f.Rules[i].Left), roomyRex(f.Rules[i].Right)
	}
	return f
}

// told tells x, f and text, with all spare room, as a text.
func told(x api.Rex, f api.File, text []int) string {
	var b strings.Builder
	var rex func(x api.Rex)
	rex = func(x api.Rex) {
		fmt.Fprint(&b, x.Kind, x.Lo, x.Hi, x.W, x.Name, len(x.L), "(")
		for _, y := range full(x.L) {
			rex(y)
		}
		fmt.Fprint(&b, ")")
	}
	var class func(c api.Class)
	class = func(c api.Class) {
		fmt.Fprint(&b, c.Kind, c.Lo, c.Hi, c.Name, len(c.L), "(")
		for _, d := range full(c.L) {
			class(d)
		}
		fmt.Fprint(&b, ")")
	}
	rex(x)
	for _, d := range full(f.Defs) {
		fmt.Fprint(&b, d.Name)
		class(d.C)
	}
	for _, r := range full(f.Rules) {
		fmt.Fprint(&b, r.Cat, r.Cost)
		rex(r.Left)
		rex(r.Right)
	}
	fmt.Fprint(&b, len(text), full(text))
	return b.String()
}

// What is handed in, its spare room too, stays as it was, and is not read further than it goes (P2).
func TestHandedInStays(t *testing.T) {
	d := &dice{29}
	for range 400 {
		f, text, x := d.rules(t, 4, 4), d.text(6), d.rex(4, 4, true)
		g, s, y := roomyFile(f), roomy(text, 'a'), roomyRex(x)
		was := told(y, g, s)
		if said(Breaks(g, s)) != said(Breaks(f, text)) {
			t.Fatalf("P2: Breaks of spare room: %s", was)
		}
		for at := range len(text) + 1 {
			if !equal(Ends(y, g, s, at), Ends(x, f, text, at)) || Cost(y, g, s, at) != Cost(x, f, text, at) {
				t.Fatalf("P2: of spare room: %s", was)
			}
		}
		if now := told(y, g, s); now != was {
			t.Fatalf("P2: %s left %s", was, now)
		}
	}
}

// An answer is the asker's own, its spare room too; what was handed in may be spoilt behind the call (P2).
func TestAnswersAreNew(t *testing.T) {
	text := scalars("aaab")
	x, f := left(t, "(a | a a)* b{0,1}")
	first, second := Ends(x, f, text, 0), Ends(x, f, text, 0)
	rows, again := Breaks(f, text), Breaks(f, text)
	want, wantRows := fmt.Sprint(second), said(again)
	for i := range full(first) {
		full(first)[i] = -7
	}
	for i := range full(rows) {
		full(rows)[i] = api.Vec{-7, -7, -7}
	}
	if fmt.Sprint(second) != want || said(again) != wantRows {
		t.Errorf("P2: two answers share memory: %v, %s", second, said(again))
	}
	if got := fmt.Sprint(text); got != fmt.Sprint(scalars("aaab")) {
		t.Errorf("P2: an answer is what was handed in: %s", got)
	}
	for i := range text {
		text[i] = 'q'
	}
	x.L[0], f.Rules[0].Cost, f.Defs[0].Name = none(), 77, "spoilt"
	if fmt.Sprint(second) != want || said(again) != wantRows {
		t.Errorf("P2: an answer keeps what was handed in: %v, %s", second, said(again))
	}
	x, f = left(t, "(a | a a)* b{0,1}")
	if got := fmt.Sprint(Ends(x, f, scalars("aaab"), 0)); got != want {
		t.Errorf("P2: something was kept: %s, not %s", got, want)
	}
}

// The same calls answer the same, whatever was asked between (P3).
func TestTheSameAgain(t *testing.T) {
	d := &dice{31}
	var asked []func() string
	var first []string
	for range 200 {
		f, text, x := d.rules(t, 4, 5), d.text(6), d.rex(4, 5, true)
		ask := func() string {
			return fmt.Sprint(Breaks(f, text), Ends(x, f, text, len(text)/2), Cost(x, f, text, len(text)))
		}
		asked, first = append(asked, ask), append(first, ask())
	}
	for i, ask := range slices.Backward(asked) {
		if got := ask(); got != first[i] {
			t.Errorf("P3: %s, then %s", first[i], got)
		}
	}
}

// No list and an empty one are the same (P2).
func TestNoListAndEmptyOne(t *testing.T) {
	x, f := left(t, "a{0,2}")
	if a, b := Ends(x, f, nil, 0), Ends(x, f, []int{}, 0); !equal(a, []int{0}) || !equal(b, a) {
		t.Errorf("P2: Ends of no text: %v, of an empty one: %v", a, b)
	}
	g := api.File{Defs: []api.Def{}, Rules: []api.Rule{{Cost: 3, Left: api.Rex{Kind: api.RNone, L: []api.Rex{}}, Right: none()}}}
	h := api.File{Rules: []api.Rule{{Cost: 3, Left: none(), Right: none()}}}
	if a, b := said(Breaks(g, []int{})), said(Breaks(h, nil)); a != "3 - -" || b != a {
		t.Errorf("P2: Breaks of empty lists: %s, of none: %s", a, b)
	}
}

// odd tells what Parse does not: patterns that lack something, or have numbers that may not be.
func odd() []api.Rex {
	l := []api.Rex{{}, {Kind: -1}, {Kind: 9}, {Kind: math.MaxInt}, {Kind: math.MinInt, L: []api.Rex{dot()}}, set(""), set("none"), set("\xff")}
	for _, n := range []int{math.MinInt, -api.Inf, -5, 13, api.Inf, math.MaxInt} {
		l = append(l, cost(dot(), n), cost(none(), n), repeat(dot(), n, n), repeat(dot(), 0, n), repeat(none(), n, 3), repeat(cost(none(), -3), n, n), repeat(cost(none(), 3), n, n), repeat(cost(none(), n), n, n))
	}
	for k := api.RNone; k <= api.RWeight; k++ {
		l = append(l, api.Rex{Kind: k}, api.Rex{Kind: k, L: []api.Rex{}}, api.Rex{Kind: k, Hi: 3, L: []api.Rex{dot()}}, api.Rex{Kind: k, Hi: 3, L: []api.Rex{{}, {Kind: k}, dot()}})
	}
	return l
}

// Of what may not be handed in nothing is promised but an end, and that it stays as it was (P1, P2, P8).
func TestHandedInWhereItMayNotBe(t *testing.T) {
	files := []api.File{{}, file(t, "")}
	for k := -1; k < 9; k++ {
		c := api.Class{Kind: k}
		files = append(files, api.File{Defs: []api.Def{{Name: "a", C: c}, {Name: "a", C: api.Class{Kind: k, Lo: 9, Hi: -9, L: []api.Class{c, c}}}, {}}})
	}
	files = append(files, api.File{Defs: make([]api.Def, 30), Rules: make([]api.Rule, 30)})
	texts := [][]int{nil, {math.MinInt, -1, 0xd800, api.Last + 1, math.MaxInt}, scalars("aba")}
	for _, x := range odd() {
		for k := range 10 {
			y := api.Rex{Kind: k, Lo: 1, Hi: 3, W: -2, L: []api.Rex{x, x}}
			for _, f := range files {
				f.Rules = append(f.Rules, api.Rule{Cat: -1, Cost: -7, Left: none(), Right: none()}, api.Rule{Cat: math.MaxInt, Left: x, Right: y}, api.Rule{Cat: 3, Left: none(), Right: none()}, api.Rule{Cat: 2, Cost: math.MaxInt, Left: y}, api.Rule{Cat: math.MinInt, Cost: math.MinInt, Left: y, Right: y}, api.Rule{Cost: math.MinInt, Left: y, Right: none()}, api.Rule{Cost: math.MaxInt, Left: none(), Right: cost(none(), 5)})
				for _, text := range texts {
					was := told(y, f, text)
					Ends(y, f, text, len(text)/2)
					Cost(y, f, text, len(text))
					if got := Breaks(f, text); len(got) != len(text)+1 {
						t.Errorf("P602: %d rows", len(got))
					}
					if now := told(y, f, text); now != was {
						t.Fatalf("P2: %s left %s", was, now)
					}
				}
			}
		}
	}
}
