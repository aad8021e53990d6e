package table

import (
	"fmt"
	"slices"
	"testing"

	"hyphen/api"
)

// turn is one thing of a table, turned.
type turn struct {
	why  string
	turn func(x *api.Table)
}

// held holds Right, and Save, of the table that many is, turned (P1201, P8, P2).
func held(t *testing.T, want bool, turns ...turn) {
	t.Helper()
	for _, one := range turns {
		x := many()
		one.turn(&x)
		was := fmt.Sprint(x)
		if got := Right(x); got != want || got != rightly(x) {
			t.Errorf("P1201: %s: Right of %v: %v", one.why, x, got)
		}
		if want {
			there(t, x)
		} else if b := Save(x); len(b) > 0 {
			t.Errorf("P9: %s: Save of %v: %x", one.why, x, b)
		}
		if now := fmt.Sprint(x); now != was {
			t.Errorf("P2: %s: %s left %s", one.why, was, now)
		}
		if !want {
			refused(t, plainly(x), one.why)
		}
	}
}

// Tables that are right (P1201).
func TestRightOnes(t *testing.T) {
	for _, x := range []api.Table{one(), many()} {
		if !Right(x) {
			t.Errorf("P1201: Right of %v: false", x)
		}
	}
	held(t, true,
		turn{"as it is", func(x *api.Table) {}},
		turn{"the last cut is Last", func(x *api.Table) { x.Cuts[4] = api.Last }},
		turn{"cuts side by side", func(x *api.Table) { copy(x.Cuts, []int{0, 1, 2, 3, 4}) }},
		turn{"a cut where the letter stays", func(x *api.Table) { x.Letters[2] = 1 }},
		turn{"states that 0 does not lead to", func(x *api.Table) { x.B.Next[0], x.F.Next[0] = []int{0, 0, 0}, []int{0, 0, 0} }},
		turn{"an Out that no state has", func(x *api.Table) { x.B.Out = []int{2, 2, 2} }},
		turn{"Emits of nothing but Inf", func(x *api.Table) {
			x.F.Emit[1] = slices.Repeat([]api.Vec{{api.Inf, api.Inf, api.Inf}}, 3)
		}},
		turn{"states that are alike", func(x *api.Table) {
			x.F.Next, x.F.Emit = append(x.F.Next, slices.Clone(x.F.Next[1])), append(x.F.Emit, slices.Clone(x.F.Emit[1]))
		}},
	)
}

// No table, and lists that lack all (P1201).
func TestRightOfNothing(t *testing.T) {
	for _, x := range []api.Table{
		{},
		{Cuts: []int{}, Letters: []int{}, B: api.Back{Next: [][]int{}, Out: []int{}}, F: api.Fwd{Next: [][]int{}, Emit: [][]api.Vec{}}},
		{B: api.Back{Next: [][]int{{}}, Out: []int{0}}, F: api.Fwd{Next: [][]int{{}}, Emit: [][]api.Vec{{{}}}}},
		{Cuts: []int{0}, Letters: []int{0}},
	} {
		if Right(x) || len(Save(x)) > 0 {
			t.Errorf("P1201: Right of %v: true", x)
		}
		refused(t, plainly(x), "nothing")
	}
}

// Cuts that are no cuts (P1201).
func TestCuts(t *testing.T) {
	held(t, false,
		turn{"no cuts", func(x *api.Table) { x.Cuts = nil }},
		turn{"empty cuts", func(x *api.Table) { x.Cuts = []int{} }},
		turn{"neither cuts nor letters", func(x *api.Table) { x.Cuts, x.Letters = nil, nil }},
		turn{"the first is 1", func(x *api.Table) { x.Cuts[0] = 1 }},
		turn{"the first is below 0", func(x *api.Table) { x.Cuts[0] = -1 }},
		turn{"all are below 0", func(x *api.Table) { copy(x.Cuts, []int{-5, -4, -3, -2, -1}) }},
		turn{"one twice", func(x *api.Table) { x.Cuts[2] = 97 }},
		turn{"0 twice", func(x *api.Table) { x.Cuts[1] = 0 }},
		turn{"the last one twice", func(x *api.Table) { x.Cuts[4] = 101 }},
		turn{"one falls", func(x *api.Table) { x.Cuts[1], x.Cuts[2] = 98, 97 }},
		turn{"the last one falls", func(x *api.Table) { x.Cuts[4] = 100 }},
		turn{"one is below 0", func(x *api.Table) { x.Cuts[3] = -1 }},
		turn{"the last one passes Last", func(x *api.Table) { x.Cuts[4] = api.Last + 1 }},
		turn{"one within passes Last", func(x *api.Table) { x.Cuts[3] = api.Last + 1 }},
		turn{"the last one is wild", func(x *api.Table) { x.Cuts[4] = 1<<63 - 1 }},
	)
}

// Letters that are no letters (P1201).
func TestLetters(t *testing.T) {
	held(t, false,
		turn{"none", func(x *api.Table) { x.Letters = nil }},
		turn{"one fewer", func(x *api.Table) { x.Letters = x.Letters[:4] }},
		turn{"one more", func(x *api.Table) { x.Letters = append(x.Letters, 0) }},
		turn{"a cut fewer", func(x *api.Table) { x.Cuts = x.Cuts[:4] }},
		turn{"a cut more", func(x *api.Table) { x.Cuts = append(x.Cuts, api.Last) }},
		turn{"the first is 1", func(x *api.Table) { copy(x.Letters, []int{1, 0, 1, 2, 0}) }},
		turn{"2 comes ahead of 1", func(x *api.Table) { copy(x.Letters, []int{0, 2, 0, 1, 2}) }},
		turn{"1 never comes", func(x *api.Table) { copy(x.Letters, []int{0, 2, 0, 2, 0}) }},
		turn{"from 1 on", func(x *api.Table) { copy(x.Letters, []int{1, 2, 1, 3, 2}) }},
		turn{"the last one leaves one out", func(x *api.Table) { x.Letters[4] = 4 }},
		turn{"one is below 0", func(x *api.Table) { x.Letters[2] = -1 }},
		turn{"the first is below 0", func(x *api.Table) { x.Letters[0] = -1 }},
		turn{"one is wild", func(x *api.Table) { x.Letters[3] = 1<<63 - 1 }},
		turn{"a letter more than states have", func(x *api.Table) { x.Letters[4] = 3 }},
		turn{"a letter fewer than states have", func(x *api.Table) { x.Letters[3] = 1 }},
	)
}

// Machines of no states (P1201).
func TestNoStates(t *testing.T) {
	held(t, false,
		turn{"B of none", func(x *api.Table) { x.B = api.Back{} }},
		turn{"B of no Next", func(x *api.Table) { x.B.Next = nil }},
		turn{"B of empty lists", func(x *api.Table) { x.B = api.Back{Next: [][]int{}, Out: []int{}} }},
		turn{"F of none", func(x *api.Table) { x.F = api.Fwd{} }},
		turn{"F of no Next", func(x *api.Table) { x.F.Next = nil }},
		turn{"F of empty lists", func(x *api.Table) { x.F = api.Fwd{Next: [][]int{}, Emit: [][]api.Vec{}} }},
	)
}

// Next of either machine, in any state, that does not fit (P1201).
func TestNext(t *testing.T) {
	for _, next := range []func(x *api.Table) [][]int{
		func(x *api.Table) [][]int { return x.B.Next },
		func(x *api.Table) [][]int { return x.F.Next },
	} {
		x := many()
		size := len(next(&x))
		for state := range size {
			held(t, false,
				turn{"no letters", func(x *api.Table) { next(x)[state] = nil }},
				turn{"a letter fewer", func(x *api.Table) { next(x)[state] = next(x)[state][:2] }},
				turn{"a letter more", func(x *api.Table) { next(x)[state] = append(next(x)[state], 0) }},
				turn{"many letters", func(x *api.Table) { next(x)[state] = make([]int, 1000) }},
			)
			for letter := range 3 {
				for _, to := range append(wild(), size-1, size) {
					held(t, to >= 0 && to < size, turn{"a state that is none", func(x *api.Table) { next(x)[state][letter] = to }})
				}
			}
		}
	}
	held(t, false,
		turn{"all of B's states of no letters", func(x *api.Table) { clear(x.B.Next) }},
		turn{"all of F's states of no letters", func(x *api.Table) { clear(x.F.Next) }},
	)
}

// Outs that do not fit (P1201).
func TestOuts(t *testing.T) {
	held(t, false,
		turn{"none", func(x *api.Table) { x.B.Out = nil }},
		turn{"one fewer", func(x *api.Table) { x.B.Out = x.B.Out[:2] }},
		turn{"one more", func(x *api.Table) { x.B.Out = append(x.B.Out, 0) }},
		turn{"a state fewer", func(x *api.Table) { x.B.Next = [][]int{{0, 1, 1}, {1, 1, 0}} }},
		turn{"a state more", func(x *api.Table) { x.B.Next = append(x.B.Next, []int{0, 0, 0}) }},
		turn{"the greatest one is one less", func(x *api.Table) { x.B.Out[1] = 1 }},
		turn{"all are 0", func(x *api.Table) { clear(x.B.Out) }},
	)
	for state := range 3 {
		for _, out := range wild() {
			x := many()
			x.B.Out[state] = out
			want := out >= 0 && out <= 2 && slices.Contains(x.B.Out, 2)
			held(t, want, turn{fmt.Sprint("an Out of ", out), func(x *api.Table) { x.B.Out[state] = out }})
		}
	}
}

// Emits that do not fit (P1201).
func TestEmits(t *testing.T) {
	held(t, false,
		turn{"none", func(x *api.Table) { x.F.Emit = nil }},
		turn{"one fewer", func(x *api.Table) { x.F.Emit = x.F.Emit[:1] }},
		turn{"one more", func(x *api.Table) { x.F.Emit = append(x.F.Emit, slices.Clone(x.F.Emit[0])) }},
		turn{"a state fewer", func(x *api.Table) { x.F.Next = [][]int{{0, 0, 0}} }},
		turn{"a state more", func(x *api.Table) { x.F.Next = append(x.F.Next, []int{0, 0, 0}) }},
		turn{"a Vec fewer in all", func(x *api.Table) { x.F.Emit[0], x.F.Emit[1] = x.F.Emit[0][:2], x.F.Emit[1][:2] }},
		turn{"a Vec more in all", func(x *api.Table) {
			x.F.Emit[0], x.F.Emit[1] = append(x.F.Emit[0], api.Vec{}), append(x.F.Emit[1], api.Vec{})
		}},
		turn{"no Vecs at all", func(x *api.Table) { clear(x.F.Emit) }},
	)
	for state := range 2 {
		held(t, false,
			turn{"no Vecs", func(x *api.Table) { x.F.Emit[state] = nil }},
			turn{"a Vec fewer", func(x *api.Table) { x.F.Emit[state] = x.F.Emit[state][:2] }},
			turn{"a Vec more", func(x *api.Table) { x.F.Emit[state] = append(x.F.Emit[state], api.Vec{}) }},
			turn{"many Vecs", func(x *api.Table) { x.F.Emit[state] = make([]api.Vec, 1000) }},
		)
		for label := range 3 {
			for category := range 3 {
				for _, cost := range wild() {
					want := cost >= 0 && cost <= api.Inf
					held(t, want, turn{fmt.Sprint("a cost of ", cost), func(x *api.Table) { x.F.Emit[state][label][category] = cost }})
				}
			}
		}
	}
}

// Thrown ones, and what they are turned to, held against the words alone (P1201, P1202, P1203).
func TestThrownTables(t *testing.T) {
	d := &dice{41}
	kept := 0
	for range 20000 {
		x := d.table(4, 4)
		if !Right(x) {
			t.Fatalf("P1201: Right of %v: false", x)
		}
		for range d.of(3) {
			d.spoil(&x)
		}
		want := rightly(x)
		if got := Right(x); got != want {
			t.Fatalf("P1201: Right of %v: %v", x, got)
		}
		if want {
			kept++
			there(t, x)
		} else {
			refused(t, plainly(x), "thrown")
		}
	}
	if kept < 7000 || kept > 14000 {
		t.Errorf("P1201: %d of 20000 are right", kept)
	}
}

// spoil turns something of x.
func (d *dice) spoil(x *api.Table) {
	l := rows(x)
	row := l[d.of(len(l))]
	switch d.of(6) {
	case 0:
		*row = append(*row, d.of(3))
	case 1:
		*row = (*row)[:d.of(len(*row)+1)]
	case 2, 3:
		if len(*row) > 0 {
			(*row)[d.of(len(*row))] = d.of(9) - 1
		}
	case 4:
		if len(*row) > 0 {
			(*row)[d.of(len(*row))] = pick(d, wild()...)
		}
	default:
		vecs := x.F.Emit[d.of(len(x.F.Emit))]
		vecs[d.of(len(vecs))][d.of(3)] = pick(d, wild()...)
	}
}
