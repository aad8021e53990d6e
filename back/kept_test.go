package back

import (
	"fmt"
	"math"
	"slices"
	"testing"

	"hyphen/api"
)

// roomy is l with spare room behind, full of v.
func roomy[T any](l []T, v T) []T {
	return append(slices.Clone(l), v, v, v)[:len(l)]
}

// full is l with all its spare room.
func full[T any](l []T) []T {
	return l[:cap(l)]
}

// roomySides is l so all through: what stands there would be more sides, live positions, ways to them.
func roomySides(l []api.Side) []api.Side {
	l = roomy(l, api.Side{})
	for i, s := range l {
		l[i].Sets, l[i].First, l[i].Ends = roomy(s.Sets, -1), roomy(s.First, 0), roomy(s.Ends, 0)
		l[i].Arcs = roomy(s.Arcs, api.Arc{})
	}
	return l
}

// roomyGrid is in so.
func roomyGrid(in [][]bool) [][]bool {
	in = roomy(in, []bool{true, true, true})
	for i, row := range in {
		in[i] = roomy(row, true)
	}
	return in
}

// told tells all that is handed to Make, with all spare room.
func told(l []api.Side, in [][]bool) string {
	said := fmt.Sprint(len(l), len(in))
	for _, s := range full(l) {
		said += fmt.Sprint(full(s.Sets), len(s.Sets), full(s.First), len(s.First), full(s.Ends), len(s.Ends), full(s.Arcs), len(s.Arcs), s.None)
	}
	for _, row := range full(in) {
		said += fmt.Sprint(len(row), full(row))
	}
	return said
}

// toldBack tells all that is handed to Run, with all spare room.
func toldBack(b api.Back, text []int) string {
	said := fmt.Sprint(len(b.Next), full(b.Out), len(b.Out), full(text), len(text))
	for _, row := range full(b.Next) {
		said += fmt.Sprint(len(row), full(row))
	}
	return said
}

// What is handed in, its spare room too, stays as it was, and is not read further than it goes (P2).
func TestHandedInStays(t *testing.T) {
	d := &dice{19}
	for range 2000 {
		defs, letters := d.of(4), 1+d.of(3)
		l, in, text := d.sides(3, 5, defs), d.grid(defs, letters), d.text(6, letters)
		k, rows := roomySides(l), roomyGrid(in)
		was := told(k, rows)
		for _, budget := range []int{plenty, 3, 0} {
			if got, want := says(k, rows, letters, budget), says(l, in, letters, budget); got != want {
				t.Fatalf("P2: Make of spare room: %s, not %s", got, want)
			}
		}
		if now := told(k, rows); now != was {
			t.Fatalf("P2: Make: %s left %s", was, now)
		}
		b, _, _ := Make(l, in, letters, plenty)
		c := api.Back{Next: roomy(b.Next, []int{0, 0, 0, 0}), Out: roomy(b.Out, 9)}
		for i, row := range c.Next {
			c.Next[i] = roomy(row, 0)
		}
		z := roomy(text, 0)
		was = toldBack(c, z)
		if got, want := fmt.Sprint(Run(c, z)), fmt.Sprint(Run(b, text)); got != want {
			t.Fatalf("P2: Run of spare room: %s, not %s", got, want)
		}
		if now := toldBack(c, z); now != was {
			t.Fatalf("P2: Run: %s left %s", was, now)
		}
	}
}

// answer is what Make told.
type answer struct {
	b    api.Back
	sets [][]bool
}

// lists tells how many lists of numbers, or of bools, there are.
func (a answer) lists() int {
	return len(a.b.Next) + 1 + len(a.sets)
}

// list writes one of them, its spare room too.
func (a answer) list(i int) string {
	switch rows := len(a.b.Next); {
	case i < rows:
		return fmt.Sprint(full(a.b.Next[i]))
	case i == rows:
		return fmt.Sprint(full(a.b.Out))
	default:
		return fmt.Sprint(full(a.sets[i-rows-1]))
	}
}

// spoil writes over one of them, its spare room too.
func (a answer) spoil(i int) {
	rows := len(a.b.Next)
	if i > rows {
		l := full(a.sets[i-rows-1])
		for at := range l {
			l[at] = !l[at]
		}
		return
	}
	l := a.b.Out
	if i < rows {
		l = a.b.Next[i]
	}
	for at := range full(l) {
		full(l)[at] = -7
	}
}

// made tells what Make does of sides.
func made(l []api.Side, in [][]bool, letters int) answer {
	b, sets, _ := Make(l, in, letters, plenty)
	return answer{b, sets}
}

// An answer of Make is the asker's own, its spare room too; no two lists of it share any; what was handed in may be spoilt behind the call (P2).
func TestMachinesAreNew(t *testing.T) {
	d := &dice{23}
	for range 400 {
		defs, letters := d.of(4), d.of(4)
		l, in := roomySides(d.sides(3, 4, defs)), roomyGrid(d.grid(defs, letters))
		was, other := told(l, in), made(l, in, letters)
		want := fmt.Sprint(other)
		for which := range other.lists() {
			a := made(l, in, letters)
			var said []string
			for i := range a.lists() {
				said = append(said, a.list(i))
			}
			a.spoil(which)
			for i := range a.lists() {
				if now := a.list(i); i != which && now != said[i] {
					t.Fatalf("P2: lists %d and %d share memory: %s, then %s", which, i, said[i], now)
				}
			}
			if now := told(l, in); now != was || fmt.Sprint(other) != want || fmt.Sprint(made(l, in, letters)) != want {
				t.Fatalf("P2: an answer shares memory with %s, or with another: %s", now, want)
			}
		}
		for _, s := range l {
			for i := range s.Sets {
				s.Sets[i], s.First[i], s.Ends[i] = -7, -7, -7
			}
			for i := range s.Arcs {
				s.Arcs[i] = api.Arc{From: -7, To: -7}
			}
		}
		for _, row := range in {
			for i := range row {
				row[i] = !row[i]
			}
		}
		if fmt.Sprint(other) != want {
			t.Fatalf("P2: an answer keeps what was handed in: %v, not %s", other, want)
		}
	}
}

// What Run tells is the asker's own, its spare room too (P2).
func TestRowsAreNew(t *testing.T) {
	d := &dice{29}
	for range 500 {
		letters := 1 + d.of(3)
		b := made(d.sides(3, 4, 2), d.grid(2, letters), letters).b
		text := roomy(d.text(6, letters), 0)
		was := toldBack(b, text)
		one, other := Run(b, text), Run(b, text)
		want := fmt.Sprint(other)
		for i := range full(one) {
			full(one)[i] = -7
		}
		if now := toldBack(b, text); now != was || fmt.Sprint(other) != want {
			t.Fatalf("P2: an answer shares memory: %s left %s; %v, not %s", was, now, other, want)
		}
		for i := range full(text) {
			full(text)[i] = -7
		}
		for i := range b.Out {
			b.Out[i] = -7
		}
		if fmt.Sprint(other) != want {
			t.Fatalf("P2: an answer keeps what was handed in: %v, not %s", other, want)
		}
	}
}

// The same calls answer the same, whatever was asked between (P3).
func TestTheSameAgain(t *testing.T) {
	d := &dice{31}
	var asked []func() string
	var first []string
	for range 400 {
		defs, letters := d.of(4), 1+d.of(3)
		l, in, text, budget := d.sides(3, 6, defs), d.grid(defs, letters), d.text(6, letters), pick(d, plenty, plenty, 4, 0)
		ask := func() string {
			b, sets, e := Make(l, in, letters, budget)
			return fmt.Sprint(b, sets, e, Run(b, text))
		}
		asked, first = append(asked, ask), append(first, ask())
	}
	for i, ask := range slices.Backward(asked) {
		if got := ask(); got != first[i] {
			t.Errorf("P3: %s, then %s", first[i], got)
		}
	}
}

// No list and an empty one are the same (P2).
func TestNoListAndEmptyOne(t *testing.T) {
	if a, b := says([]api.Side{}, [][]bool{}, 2, plenty), says(nil, nil, 2, plenty); a != b {
		t.Errorf("P2: of empty lists %s, of none %s", a, b)
	}
	e := api.Side{Sets: []int{}, First: []int{}, Ends: []int{}, Arcs: []api.Arc{}, None: 3}
	if a, b := says([]api.Side{e}, [][]bool{{}}, 0, plenty), says([]api.Side{{None: 3}}, [][]bool{nil}, 0, plenty); a != b {
		t.Errorf("P2: of empty lists %s, of none %s", a, b)
	}
}

// Beside Budget nothing is told (P4).
func TestNothingBesideBudget(t *testing.T) {
	l, in := sides(t, ". 0; 0 -; - 0; 0>1; -", "; ; ; ; 0"), grid("01")
	for _, budget := range []int{math.MinInt, -1, 0, 1, 2, 3} {
		if b, sets, e := Make(l, in, 2, budget); e != api.Budget || len(b.Next) > 0 || len(b.Out) > 0 || len(sets) > 0 {
			t.Errorf("P4: of a budget of %d: %v, %v, %v", budget, b, sets, e)
		}
	}
}

// wild is numbers that fit nowhere, and some that do.
func wild() []int {
	return []int{math.MinInt, -api.Inf, -2, -1, 0, 1, 2, 3, 63, 64, api.Last, api.Inf, math.MaxInt}
}

// oddSides tells what side.Make does not: lists of any length, Arcs to anywhere, any numbers.
func oddSides() []api.Side {
	var arcs []api.Arc
	for _, from := range wild() {
		for _, to := range wild() {
			arcs = append(arcs, api.Arc{From: from, To: to, W: from})
		}
	}
	l := []api.Side{{Arcs: arcs}, {None: math.MinInt}, {None: math.MaxInt}}
	for _, k := range []int{0, 1, 3, len(wild())} {
		l = append(l, api.Side{Sets: wild()[:k], First: wild(), Ends: wild(), Arcs: arcs}, api.Side{Sets: wild(), First: wild()[:k], Ends: wild(), Arcs: arcs}, api.Side{Sets: wild(), First: wild(), Ends: wild()[:k], Arcs: arcs, None: -1})
	}
	return l
}

// Of what may not be handed in nothing is promised but an end, and that it stays as it was (P1, P2, P8).
func TestMakeOfWhatMayNotBe(t *testing.T) {
	l := oddSides()
	for _, in := range [][][]bool{nil, {nil}, {{true}, {}, {false, true}, nil, {true, true, true, true, true}}} {
		was := told(l, in)
		for _, letters := range []int{math.MinInt, -1, 0, 1, 2, 5, 100, api.Inf, math.MaxInt} {
			for _, budget := range []int{math.MinInt, 0, 1, 50, math.MaxInt} {
				Make(l, in, letters, budget)
				Make(nil, in, letters, budget)
				for _, s := range l {
					Make([]api.Side{s, s}, in, letters, budget)
				}
			}
		}
		if now := told(l, in); now != was {
			t.Fatalf("P2: %s left %s", was, now)
		}
	}
}

// Nor of what Run may not be handed (P1, P2, P8).
func TestRunOfWhatMayNotBe(t *testing.T) {
	rows := [][]int{nil, wild(), {0}, {1, 2}, {}, {math.MaxInt, -1, 1}, wild()}
	for _, next := range [][][]int{nil, {nil}, rows, rows[1:], rows[2:3]} {
		for _, out := range [][]int{nil, {5}, wild()} {
			for _, text := range [][]int{nil, {0}, wild(), slices.Repeat([]int{1, 0, 2}, 50)} {
				b := api.Back{Next: next, Out: out}
				was := toldBack(b, text)
				if got := Run(b, text); len(got) != len(text)+1 {
					t.Errorf("P902: %d numbers of %d letters", len(got), len(text))
				}
				if now := toldBack(b, text); now != was {
					t.Fatalf("P2: %s left %s", was, now)
				}
			}
		}
	}
}

// A number of letters that cannot be is refused (P9).
func TestLettersThatMayNotBe(t *testing.T) {
	for _, letters := range []int{math.MinInt, -1, api.Last + 2, math.MaxInt} {
		if got := says(nil, nil, letters, plenty); got != refused {
			t.Errorf("P9: of %d letters: %s", letters, got)
		}
	}
	if b, _, e := Make(nil, nil, api.Last+1, 1); e != api.OK || len(b.Next) != 1 || len(b.Next[0]) != api.Last+1 {
		t.Errorf("P901: of as many letters as numbers: %d states, %v", len(b.Next), e)
	}
}
