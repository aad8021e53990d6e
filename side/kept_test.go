package side

import (
	"fmt"
	"math"
	"slices"
	"testing"

	"hyphen/api"
	"hyphen/syn"
)

// roomy is l with spare room behind, full of v.
func roomy[T any](l []T, v T) []T {
	return append(slices.Clone(l), v, v, v)[:len(l)]
}

// full is l with all its spare room.
func full[T any](l []T) []T {
	return l[:cap(l)]
}

// roomyRex is x so all through.
func roomyRex(x api.Rex) api.Rex {
	x.L = roomy(x.L, dot())
	for i := range x.L {
		x.L[i] = roomyRex(x.L[i])
	}
	return x
}

// roomyFile is f so.
func roomyFile(f api.File) api.File {
	f.Defs = roomy(f.Defs, api.Def{Name: "spare", C: api.Class{Kind: api.CAny}})
	f.Rules = roomy(f.Rules, api.Rule{Left: none(), Right: none()})
	return f
}

// roomySide is s so.
func roomySide(s api.Side) api.Side {
	s.Sets, s.First, s.Ends = roomy(s.Sets, -1), roomy(s.First, 0), roomy(s.Ends, 0)
	s.Arcs = roomy(s.Arcs, api.Arc{})
	return s
}

// toldRex tells x, with all spare room, as a text.
func toldRex(x api.Rex) string {
	s := fmt.Sprint(x.Kind, x.Lo, x.Hi, x.W, x.Name, len(x.L), "(")
	for _, y := range full(x.L) {
		s += toldRex(y)
	}
	return s + ")"
}

// told tells all that may be handed in, with all spare room, as a text.
func told(x api.Rex, f api.File, s api.Side, text []int, in [][]bool) string {
	room := ""
	for _, row := range full(in) {
		room += fmt.Sprint(len(row), full(row))
	}
	return fmt.Sprint(toldRex(x), full(f.Defs), len(f.Defs), full(f.Rules), len(f.Rules),
		full(s.Sets), len(s.Sets), full(s.First), len(s.First), full(s.Ends), len(s.Ends), full(s.Arcs), len(s.Arcs), s.None,
		full(text), len(text), len(in), room)
}

// What is handed in, its spare room too, stays as it was, and is not read further than it goes (P2).
func TestHandedInStays(t *testing.T) {
	_, f := left(t, "a b | v")
	d := &dice{29}
	for range 600 {
		x, text, in := d.made(5, 4), d.text(6), rows(f)
		s := made(t, x, f)
		y, g, z, l, rowsIn := roomyRex(x), roomyFile(f), roomySide(s), roomy(text, 'a'), roomy(in, []bool{true, true})
		for i := range rowsIn {
			rowsIn[i] = roomy(rowsIn[i], true)
		}
		was := told(y, g, z, l, rowsIn)
		if Size(y) != Size(x) || said(made(t, y, g)) != said(s) {
			t.Fatalf("P2: Make of spare room: %s", syn.Rex(x))
		}
		for from := range len(text) + 1 {
			if to := len(text); Cost(z, g, l, from, to) != Cost(s, f, text, from, to) {
				t.Fatalf("P2: Cost of spare room: %s", syn.Rex(x))
			}
		}
		if said(Trim(z, rowsIn)) != said(Trim(s, in)) {
			t.Fatalf("P2: Trim of spare room: %s", syn.Rex(x))
		}
		if now := told(y, g, z, l, rowsIn); now != was {
			t.Fatalf("P2: %s left %s", was, now)
		}
	}
}

// spoil writes over one list of s, its spare room too.
func spoil(s api.Side, which int) {
	switch which {
	case 3:
		for i := range full(s.Arcs) {
			full(s.Arcs)[i] = api.Arc{From: -7, To: -7, W: -7}
		}
	default:
		l := [...][]int{s.Sets, s.First, s.Ends}[which]
		for i := range full(l) {
			full(l)[i] = -7
		}
	}
}

// lists writes the lists of s one by one, their spare room too.
func lists(s api.Side) []string {
	return []string{fmt.Sprint(full(s.Sets)), fmt.Sprint(full(s.First)), fmt.Sprint(full(s.Ends)), fmt.Sprint(full(s.Arcs))}
}

// An answer is the asker's own, its spare room too; no two lists of one share any; what was handed in may be spoilt behind the call (P2).
func TestAnswersAreNew(t *testing.T) {
	for _, pattern := range []string{"a", "a b", "a | b", "(a | b)* v", "(a @ 2 | () @ 3){2,3}", "(a (b | v))* @ 3", "a{3,3}", "(a | )*"} {
		x, f := left(t, pattern)
		want := said(made(t, x, f))
		for which := range 4 {
			s, other := made(t, x, f), made(t, x, f)
			z, again := Trim(s, rows(f)), Trim(s, rows(f))
			ofS, ofZ := lists(s), lists(z)
			spoil(s, which)
			for i, l := range lists(s) {
				if i != which && l != ofS[i] {
					t.Errorf("P2: %s: lists %d and %d share memory: %s", pattern, which, i, l)
				}
			}
			if said(other) != want || said(z) != want || said(made(t, x, f)) != want {
				t.Errorf("P2: %s: two answers share memory", pattern)
			}
			spoil(z, which)
			for i, l := range lists(z) {
				if i != which && l != ofZ[i] {
					t.Errorf("P2: %s, trimmed: lists %d and %d share memory: %s", pattern, which, i, l)
				}
			}
			if said(again) != want || said(other) != want {
				t.Errorf("P2: %s, trimmed: two answers share memory", pattern)
			}
		}
		s := made(t, x, f)
		in := rows(f)
		z := Trim(s, in)
		for i := range x.L {
			x.L[i] = none()
		}
		for i := range f.Defs {
			f.Defs[i] = api.Def{Name: "spoilt"}
			in[i][0] = !in[i][0]
		}
		if said(s) != want || said(z) != want {
			t.Errorf("P2: %s: an answer keeps what was handed in", pattern)
		}
	}
}

// The same calls answer the same, whatever was asked between (P3).
func TestTheSameAgain(t *testing.T) {
	_, f := left(t, "")
	d := &dice{31}
	var asked []func() string
	var first []string
	for range 300 {
		x, text := d.rex(5, 5), d.text(6)
		ask := func() string {
			s, is := Make(x, f)
			return fmt.Sprint(Size(x), is, said(s), Cost(s, f, text, 0, len(text)), said(Trim(s, rows(f))))
		}
		asked, first = append(asked, ask), append(first, ask())
	}
	for i, ask := range slices.Backward(asked) {
		if got := ask(); got != first[i] {
			t.Errorf("P3: %s, then %s", first[i], got)
		}
	}
}

// No list and an empty one are the same (P2).
func TestNoListAndEmptyOne(t *testing.T) {
	_, f := left(t, "")
	s := made(t, api.Rex{Kind: api.RNone, L: []api.Rex{}}, api.File{Defs: []api.Def{}, Rules: []api.Rule{}})
	if said(s) != "; ; ; ; 0" {
		t.Errorf("P2: Make of empty lists: %s", said(s))
	}
	e := api.Side{Sets: []int{}, First: []int{}, Ends: []int{}, Arcs: []api.Arc{}, None: 3}
	if a, b := Cost(e, f, []int{}, 0, 0), Cost(api.Side{None: 3}, api.File{}, nil, 0, 0); a != 3 || b != 3 {
		t.Errorf("P2: Cost of empty lists: %d, of none: %d", a, b)
	}
	if a, b := said(Trim(e, [][]bool{})), said(Trim(api.Side{None: 3}, nil)); a != "; ; ; ; 3" || b != a {
		t.Errorf("P2: Trim of empty lists: %s, of none: %s", a, b)
	}
}

// odd tells what Parse does not: patterns that lack something, or have numbers that may not be.
func odd() []api.Rex {
	l := []api.Rex{{}, {Kind: -1}, {Kind: 9}, {Kind: math.MaxInt}, {Kind: math.MinInt, L: []api.Rex{dot()}}, set(""), set("none"), set("\xff")}
	for _, n := range []int{math.MinInt, -api.Inf, -5, 13, 121, api.Inf, math.MaxInt} {
		l = append(l, cost(dot(), n), cost(none(), n), repeat(dot(), n, n), repeat(dot(), 0, n), repeat(dot(), n, 0), repeat(none(), n, 3), repeat(cost(none(), -3), n, n), repeat(cost(none(), 3), n, n), repeat(cost(none(), n), n, n), repeat(alt(dot(), cost(none(), n)), n, 5))
	}
	for k := api.RNone; k <= api.RWeight; k++ {
		l = append(l, api.Rex{Kind: k}, api.Rex{Kind: k, L: []api.Rex{}}, api.Rex{Kind: k, Hi: 3, L: []api.Rex{dot()}}, api.Rex{Kind: k, Hi: 3, L: []api.Rex{{}, {Kind: k}, dot()}})
	}
	return l
}

// oddSides tells what Make does not: lists of any length, arcs to anywhere, any numbers.
func oddSides() []api.Side {
	wild := []int{math.MinInt, -2, -1, 0, 1, 5, 6, api.Inf, math.MaxInt}
	var arcs []api.Arc
	for _, from := range wild {
		for _, to := range wild {
			for _, w := range wild {
				arcs = append(arcs, api.Arc{From: from, To: to, W: w})
			}
		}
	}
	l := []api.Side{{}, {None: math.MinInt}, {None: math.MaxInt}, {Sets: wild, First: wild, Ends: wild, Arcs: arcs, None: -1}}
	for _, k := range []int{0, 1, 5} {
		l = append(l, api.Side{Sets: wild[:k], First: wild, Ends: wild, Arcs: arcs}, api.Side{Sets: wild, First: wild[:k], Ends: wild, Arcs: arcs}, api.Side{Sets: wild, First: wild, Ends: wild[:k], Arcs: arcs})
	}
	return l
}

// Of what may not be handed in nothing is promised but an end, and that it stays as it was (P1, P2, P8).
func TestHandedInWhereItMayNotBe(t *testing.T) {
	_, f := left(t, "")
	files := []api.File{{}, f, {Defs: make([]api.Def, 70)}}
	for k := -1; k < 9; k++ {
		c := api.Class{Kind: k}
		files = append(files, api.File{Defs: []api.Def{{Name: "a", C: c}, {Name: "a", C: api.Class{Kind: k, Lo: 9, Hi: -9, L: []api.Class{c, c}}}, {}}})
	}
	text := []int{math.MinInt, -1, 0xd800, 'a', api.Last + 1, math.MaxInt}
	grids := [][][]bool{nil, {nil}, {{true}, {}, {false, true}, nil, {true, true, true}, {false}, {true}, {true}}}
	check := func(x api.Rex, f api.File, s api.Side) {
		for _, in := range grids {
			was := told(x, f, s, text, in)
			z := Trim(s, in)
			Trim(z, nil)
			for from := range text {
				Cost(s, f, text, from, len(text))
				Cost(z, f, text, 0, from)
			}
			if now := told(x, f, s, text, in); now != was {
				t.Fatalf("P2: %s left %s", was, now)
			}
		}
	}
	for _, x := range odd() {
		for k := range 10 {
			y := api.Rex{Kind: k, Lo: 1, Hi: 3, W: -2, L: []api.Rex{x, x}}
			for _, f := range files {
				s, is := Make(y, f)
				if is && len(s.Sets) != Size(y) {
					t.Errorf("P701: %d of %d", len(s.Sets), Size(y))
				}
				check(y, f, s)
			}
		}
	}
	for _, s := range oddSides() {
		for _, f := range files {
			check(none(), f, s)
		}
	}
}

// A name of no Def matches nothing, though it has its position.
func TestNameOfNoDef(t *testing.T) {
	_, f := left(t, "")
	for _, x := range []api.Rex{set("none"), cat(set("a"), set("none")), cat(set(""), dot())} {
		s := made(t, x, f)
		if n := Cost(s, f, scalars("aa"), 0, Size(x)); n != api.Inf || len(s.Sets) != Size(x) || len(Trim(s, rows(f)).Sets) != 0 {
			t.Errorf("P1: of no Def's name: %d, %s", n, said(s))
		}
	}
}
