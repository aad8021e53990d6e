package det

import (
	"fmt"
	"math"
	"slices"
	"testing"

	"hyphen/api"
)

// roomy is l with spare room behind, full of v.
func roomy[T any](l []T, v T) []T {
	return append(slices.Clone(l), v, v, v)[:len(l)]
}

// full is l with all its spare room.
func full[T any](l []T) []T {
	return l[:cap(l)]
}

// roomyGrid is l so all through.
func roomyGrid(l [][]bool) [][]bool {
	l = roomy(l, []bool{true, true, true})
	for i, row := range l {
		l[i] = roomy(row, true)
	}
	return l
}

// roomy is g so all through: what stands there would be more Rules, positions, cheap ways to them.
func (g given) roomy() given {
	g.rules, g.sides, g.in, g.sets = roomy(g.rules, api.Rule{}), roomy(g.sides, api.Side{}), roomyGrid(g.in), roomyGrid(g.sets)
	for i := range g.rules {
		g.rules[i].Left = api.Rex{Kind: api.RStar, L: roomy([]api.Rex{{Kind: api.RAny}}, api.Rex{Kind: api.RNone})}
	}
	for i, s := range g.sides {
		g.sides[i].Sets, g.sides[i].First, g.sides[i].Ends = roomy(s.Sets, -1), roomy(s.First, 0), roomy(s.Ends, 0)
		g.sides[i].Arcs = roomy(s.Arcs, api.Arc{})
	}
	return g
}

// told tells all that is handed to Make, with all spare room.
func (g given) told() string {
	said := fmt.Sprint(len(g.rules), len(g.sides), len(g.in), len(g.sets), full(g.rules))
	for _, r := range full(g.rules) {
		said += fmt.Sprint(len(r.Left.L), full(r.Left.L), full(r.Right.L))
	}
	for _, s := range full(g.sides) {
		said += fmt.Sprint(full(s.Sets), len(s.Sets), full(s.First), len(s.First), full(s.Ends), len(s.Ends), full(s.Arcs), len(s.Arcs), s.None)
	}
	for _, row := range slices.Concat(full(g.in), full(g.sets)) {
		said += fmt.Sprint(len(row), full(row))
	}
	return said
}

// spoil writes over all that was handed in.
func (g given) spoil() {
	clear(full(g.rules))
	for _, s := range g.sides {
		for i := range s.Sets {
			s.Sets[i], s.First[i], s.Ends[i] = -7, -7, -7
		}
		for i := range s.Arcs {
			s.Arcs[i] = api.Arc{From: -7, To: -7}
		}
	}
	clear(full(g.sides))
	for _, row := range slices.Concat(g.in, g.sets) {
		for i := range row {
			row[i] = !row[i]
		}
	}
}

// toldFwd tells all that is handed to Run, with all spare room.
func toldFwd(f api.Fwd, text, labels []int) string {
	said := fmt.Sprint(len(f.Next), len(f.Emit), full(text), len(text), full(labels), len(labels))
	for _, row := range full(f.Next) {
		said += fmt.Sprint(len(row), full(row))
	}
	for _, l := range full(f.Emit) {
		said += fmt.Sprint(len(l), full(l))
	}
	return said
}

// roomyFwd is f with spare room all through.
func roomyFwd(f api.Fwd) api.Fwd {
	f = api.Fwd{Next: roomy(f.Next, []int{0, 0, 0, 0}), Emit: roomy(f.Emit, []api.Vec{{}, {}})}
	for i, row := range f.Next {
		f.Next[i] = roomy(row, 0)
	}
	for i, l := range f.Emit {
		f.Emit[i] = roomy(l, api.Vec{})
	}
	return f
}

// What is handed in, its spare room too, stays as it was, and is not read further than it goes (P2).
func TestHandedInStays(t *testing.T) {
	d := &dice{19}
	for range 2000 {
		letters := 1 + d.of(3)
		g := d.given(3, 5, d.of(4), letters)
		h := g.roomy()
		was := h.told()
		for _, budget := range []int{plenty, 3, 0} {
			if got, want := h.says(budget), g.says(budget); got != want {
				t.Fatalf("P2: Make of spare room: %s, not %s", got, want)
			}
		}
		if now := h.told(); now != was {
			t.Fatalf("P2: Make: %s left %s", was, now)
		}
		f, _ := g.made(plenty)
		k, text := roomyFwd(f), roomy(d.text(6, letters), 0)
		labels := roomy(d.labels(text, len(g.sets)+1), 0)
		was = toldFwd(k, text, labels)
		if got, want := fmt.Sprint(Run(k, text, labels)), fmt.Sprint(Run(f, slices.Clip(text), slices.Clip(labels))); got != want {
			t.Fatalf("P2: Run of spare room: %s, not %s", got, want)
		}
		if now := toldFwd(k, text, labels); now != was {
			t.Fatalf("P2: Run: %s left %s", was, now)
		}
	}
}

// rows writes each list of a machine, its spare room too.
func rows(f api.Fwd) []string {
	var l []string
	for _, row := range f.Next {
		l = append(l, fmt.Sprint(full(row)))
	}
	for _, vecs := range f.Emit {
		l = append(l, fmt.Sprint(full(vecs)))
	}
	return l
}

// spoilRow writes over one of them, its spare room too.
func spoilRow(f api.Fwd, which int) {
	if states := len(f.Next); which >= states {
		l := full(f.Emit[which-states])
		for at := range l {
			l[at] = api.Vec{-7, -7, -7}
		}
		return
	}
	l := full(f.Next[which])
	for at := range l {
		l[at] = -7
	}
}

// An answer of Make is the asker's own, its spare room too; no two lists of it share any; what was handed in may be spoilt behind the call (P2).
func TestMachinesAreNew(t *testing.T) {
	d := &dice{23}
	for range 400 {
		g := d.given(3, 4, d.of(4), d.of(4)).roomy()
		was := g.told()
		other, _ := g.made(plenty)
		want := fmt.Sprint(other)
		for which := range rows(other) {
			f, _ := g.made(plenty)
			said := rows(f)
			spoilRow(f, which)
			for i, now := range rows(f) {
				if i != which && now != said[i] {
					t.Fatalf("P2: lists %d and %d share memory: %s, then %s", which, i, said[i], now)
				}
			}
			clear(full(f.Next))
			clear(full(f.Emit))
			again, _ := g.made(plenty)
			if now := g.told(); now != was || fmt.Sprint(other) != want || fmt.Sprint(again) != want {
				t.Fatalf("P2: an answer shares memory with %s, or with another: %s", now, want)
			}
		}
		g.spoil()
		if fmt.Sprint(other) != want {
			t.Fatalf("P2: an answer keeps what was handed in: %v, not %s", other, want)
		}
	}
}

// What Run tells is the asker's own, its spare room too (P2).
func TestVecsAreNew(t *testing.T) {
	d := &dice{29}
	for range 500 {
		letters := 1 + d.of(3)
		f := roomyFwd(d.fwd(1+d.of(5), letters, 2))
		text := roomy(d.text(6, letters), 0)
		labels := roomy(d.labels(text, 2), 0)
		was := toldFwd(f, text, labels)
		one, other := Run(f, text, labels), Run(f, text, labels)
		want := fmt.Sprint(other)
		for i := range full(one) {
			full(one)[i] = api.Vec{-7, -7, -7}
		}
		if now := toldFwd(f, text, labels); now != was || fmt.Sprint(other) != want {
			t.Fatalf("P2: an answer shares memory: %s left %s; %v, not %s", was, now, other, want)
		}
		for which := range rows(f) {
			spoilRow(f, which)
		}
		clear(full(text))
		clear(full(labels))
		if fmt.Sprint(other) != want {
			t.Fatalf("P2: an answer keeps what was handed in: %v, not %s", other, want)
		}
	}
}

// The same calls answer the same, whatever was asked between (P3).
func TestTheSameAgain(t *testing.T) {
	d := &dice{31}
	var asked []func() string
	var first []string
	for range 400 {
		letters := 1 + d.of(3)
		g, text, budget := d.given(4, 6, d.of(4), letters), d.text(6, letters), pick(d, plenty, plenty, 4, 0)
		labels := d.labels(text, len(g.sets)+1)
		ask := func() string {
			f, e := g.made(budget)
			return fmt.Sprint(f, e, Run(f, text, labels))
		}
		asked, first = append(asked, ask), append(first, ask())
	}
	for i, ask := range slices.Backward(asked) {
		if got := ask(); got != first[i] {
			t.Errorf("P3: %s, then %s", first[i], got)
		}
	}
}

// No list and an empty one are the same (P2).
func TestNoListAndEmptyOne(t *testing.T) {
	none, empty := given{letters: 2}, given{letters: 2, rules: []api.Rule{}, sides: []api.Side{}, in: [][]bool{}, sets: [][]bool{}}
	if a, b := empty.says(plenty), none.says(plenty); a != b {
		t.Errorf("P2: of empty lists %s, of none %s", a, b)
	}
	none.sets, empty.sets = [][]bool{nil}, [][]bool{{}}
	if a, b := empty.says(plenty), none.says(plenty); a != b {
		t.Errorf("P2: of empty lists %s, of none %s", a, b)
	}
	none = given{rules: make([]api.Rule, 1), sides: []api.Side{{None: 3}}, in: [][]bool{nil}, sets: grid("1")}
	empty = none
	empty.in, empty.sides = [][]bool{{}}, []api.Side{{Sets: []int{}, First: []int{}, Ends: []int{}, Arcs: []api.Arc{}, None: 3}}
	if a, b := empty.says(plenty), none.says(plenty); a != b {
		t.Errorf("P2: of empty lists %s, of none %s", a, b)
	}
	f, _ := none.made(plenty)
	if a, b := fmt.Sprint(Run(f, []int{}, []int{0})), fmt.Sprint(Run(f, nil, []int{0})); a != b {
		t.Errorf("P2: over an empty text %s, over none %s", a, b)
	}
}

// Beside Budget nothing is told (P4).
func TestNothingBesideBudget(t *testing.T) {
	g := reads(t, "01", 2, "11", "line 1 / . 0; 0 -; - 0; 0>1; -", "hyphen 2 / ; ; ; ; 0")
	for _, budget := range []int{math.MinInt, -1, 0, 1, 2} {
		if f, e := g.made(budget); e != api.Budget || len(f.Next) > 0 || len(f.Emit) > 0 {
			t.Errorf("P4: of a budget of %d: %v, %v", budget, f, e)
		}
	}
}

// wild is numbers that fit nowhere, and some that do.
func wild() []int {
	return []int{math.MinInt, -api.Inf, -2, -1, 0, 1, 2, 3, 63, 64, api.Last, api.Inf, math.MaxInt}
}

// odd tells what is not handed in by right: lists of any length, Arcs to anywhere, any numbers, categories that are none.
func odd() given {
	var arcs []api.Arc
	for _, from := range wild() {
		for _, to := range wild() {
			arcs = append(arcs, api.Arc{From: from, To: to, W: from})
		}
	}
	g := given{sides: []api.Side{{Arcs: arcs}, {None: math.MinInt}, {None: math.MaxInt}}}
	for _, k := range []int{0, 1, 3, len(wild())} {
		g.sides = append(g.sides, api.Side{Sets: wild()[:k], First: wild(), Ends: wild(), Arcs: arcs}, api.Side{Sets: wild(), First: wild()[:k], Ends: wild(), Arcs: arcs}, api.Side{Sets: wild(), First: wild(), Ends: wild()[:k], Arcs: arcs, None: -1})
	}
	for _, n := range wild() {
		g.rules = append(g.rules, api.Rule{Cat: n, Cost: 1}, api.Rule{Cat: 1, Cost: n})
	}
	for k := range 30 {
		g.sets = append(g.sets, slices.Repeat([]bool{true}, k))
	}
	return g
}

// Of what may not be handed in nothing is promised but an end, and that it stays as it was (P1, P2, P8).
func TestMakeOfWhatMayNotBe(t *testing.T) {
	g := odd()
	for _, in := range [][][]bool{nil, {nil}, {{true}, {}, {false, true}, nil, {true, true, true, true, true}}} {
		g.in = in
		was := g.told()
		for _, letters := range []int{math.MinInt, -1, 0, 1, 2, 5, 100, api.Inf, math.MaxInt} {
			g.letters = letters
			for _, budget := range []int{math.MinInt, 0, 1, 50, 2000} {
				g.made(budget)
				Make(nil, g.sides, in, letters, g.sets, budget)
				Make(g.rules, nil, in, letters, g.sets, budget)
				for i := range g.sides {
					Make(g.rules, g.sides[i:i+1], in, letters, g.sets, budget)
					Make(g.rules[i:i+1], g.sides[i:], in, letters, g.sets, budget)
				}
			}
		}
		if now := g.told(); now != was {
			t.Fatalf("P2: %s left %s", was, now)
		}
	}
}

// Rounds that cost, as a Left may not have: rows without end are told by Budget (P1, P8, P1001).
func TestRoundsThatCost(t *testing.T) {
	for _, w := range []string{"1", "-1", "1000000"} {
		g := reads(t, "01", 2, "1", "line 1 / 0 .; 0 -; - 0; 0>1 1>1:"+w+"; -")
		for _, budget := range []int{1, 1000, math.MaxInt} {
			if got := g.says(budget); got != refused {
				t.Errorf("P1001: of a round that costs %s, a budget of %d: %.100s", w, budget, got)
			}
		}
	}
}

// Nor is anything promised of what Run may not be handed (P1, P2, P8).
func TestRunOfWhatMayNotBe(t *testing.T) {
	states := [][]int{nil, wild(), {0}, {1, 2}, {}, {math.MaxInt, -1, 1}, wild()}
	for _, next := range [][][]int{nil, {nil}, states, states[1:], states[2:3]} {
		for _, emit := range [][][]api.Vec{nil, {nil}, {vecs(5)}, {nil, vecs(1, 2), vecs(3), nil, vecs(wild()...)}} {
			for _, text := range [][]int{nil, {0}, wild(), slices.Repeat([]int{1, 0, 2}, 50)} {
				for _, labels := range [][]int{nil, {0}, {-1, 0}, wild(), slices.Repeat([]int{0, 1, -1}, 60)} {
					f := api.Fwd{Next: next, Emit: emit}
					was := toldFwd(f, text, labels)
					if got := Run(f, text, labels); len(got) != len(text)+1 {
						t.Errorf("P1002: %d Vecs of %d letters", len(got), len(text))
					}
					if now := toldFwd(f, text, labels); now != was {
						t.Fatalf("P2: %s left %s", was, now)
					}
				}
			}
		}
	}
}

// A number of letters that cannot be is refused (P9).
func TestLettersThatMayNotBe(t *testing.T) {
	for _, letters := range []int{math.MinInt, -1, api.Last + 2, math.MaxInt} {
		if got := (given{letters: letters}).says(plenty); got != refused {
			t.Errorf("P9: of %d letters: %s", letters, got)
		}
	}
	if f, e := (given{letters: api.Last + 1}).made(1); e != api.OK || len(f.Next) != 1 || len(f.Next[0]) != api.Last+1 {
		t.Errorf("P1001: of as many letters as numbers: %d states, %v", len(f.Next), e)
	}
}
