package mini

import (
	"fmt"
	"slices"
	"testing"

	"hyphen/api"
)

// roomy is l with spare room behind, full of v.
func roomy[T any](l []T, v T) []T {
	return append(slices.Clone(l), v, v, v)[:len(l)]
}

// full is l with all its spare room.
func full[T any](l []T) []T {
	return l[:cap(l)]
}

// roomyBack is b with spare room all through: what stands there would be more states, letters, Outs.
func roomyBack(b api.Back) api.Back {
	c := api.Back{Next: roomy(b.Next, slices.Repeat([]int{0}, letters(b.Next))), Out: roomy(b.Out, 1)}
	for state, next := range c.Next {
		c.Next[state] = roomy(next, 0)
	}
	return c
}

// roomyFwd is f so: more states, letters, Vecs.
func roomyFwd(f api.Fwd) api.Fwd {
	g := api.Fwd{Next: roomy(f.Next, slices.Repeat([]int{0}, letters(f.Next))), Emit: roomy(f.Emit, slices.Clone(f.Emit[0]))}
	for state, next := range g.Next {
		g.Next[state], g.Emit[state] = roomy(next, 0), roomy(g.Emit[state], api.Vec{})
	}
	return g
}

// toldBack tells all of a machine, with all spare room, and what else is handed in with it, or told with it.
func toldBack(b api.Back, l []int) string {
	said := fmt.Sprint(len(b.Next), full(b.Out), len(b.Out), full(l), len(l))
	for _, next := range full(b.Next) {
		said += fmt.Sprint(full(next), len(next))
	}
	return said
}

// toldFwd tells so of one that goes forward.
func toldFwd(f api.Fwd, l []int) string {
	said := fmt.Sprint(len(f.Next), len(f.Emit), full(l), len(l))
	for _, next := range full(f.Next) {
		said += fmt.Sprint(full(next), len(next))
	}
	for _, emit := range full(f.Emit) {
		said += fmt.Sprint(full(emit), len(emit))
	}
	return said
}

// given throws a machine of both kinds, and labels.
func (d *dice) given() (api.Back, api.Fwd, []int) {
	many := 1 + d.of(3)
	b := d.blown(d.machine(1+d.of(5), d.of(4), 1+d.of(3)), 1+d.of(2), d.of(3))
	f := saying(b, func(out int) []api.Vec { return slices.Repeat(plain(out)[1:], many) })
	var labels []int
	for range d.of(5) {
		labels = append(labels, d.of(many))
	}
	return b, f, labels
}

// What is handed in, its spare room too, stays as it was, and is not read further than it goes (P2).
func TestHandedInStays(t *testing.T) {
	d := &dice{17}
	for range 2000 {
		b, f, labels := d.given()
		x, y, l := roomyBack(b), roomyFwd(f), roomy(labels, 0)
		was := toldBack(x, l) + toldFwd(y, l)
		c, names := Back(b)
		if got, same := Back(x); tellBack(got) != tellBack(c) || !slices.Equal(same, names) {
			t.Fatalf("P2: Back of spare room: %s, not %s", tellBack(got), tellBack(c))
		}
		g, names := Fwd(f)
		if got, same := Fwd(y); tellFwd(got) != tellFwd(g) || !slices.Equal(same, names) {
			t.Fatalf("P2: Fwd of spare room: %s, not %s", tellFwd(got), tellFwd(g))
		}
		if got, want := tellFwd(Pick(y, l)), tellFwd(Pick(f, labels)); got != want {
			t.Fatalf("P2: Pick of spare room: %s, not %s", got, want)
		}
		if now := toldBack(x, l) + toldFwd(y, l); now != was {
			t.Fatalf("P2: %s left %s", was, now)
		}
	}
}

// answer is what one call tells, list by list.
type answer struct {
	rows  [][]int
	emits [][]api.Vec
}

// size tells how many lists it has.
func (a answer) size() int {
	return len(a.rows) + len(a.emits)
}

// list writes one of them, its spare room too.
func (a answer) list(which int) string {
	if which < len(a.rows) {
		return fmt.Sprint(full(a.rows[which]))
	}
	return fmt.Sprint(full(a.emits[which-len(a.rows)]))
}

// spoil writes over one of them, its spare room too.
func (a answer) spoil(which int) {
	if which < len(a.rows) {
		l := full(a.rows[which])
		for i := range l {
			l[i] = -7
		}
		return
	}
	l := full(a.emits[which-len(a.rows)])
	for i := range l {
		l[i] = api.Vec{-7, -7, -7}
	}
}

// lists writes all.
func (a answer) lists() []string {
	var l []string
	for which := range a.size() {
		l = append(l, a.list(which))
	}
	return l
}

// calls tells what the three of them answer, and spoils the lists of lists, which may not be anybody else's either.
func calls(b api.Back, f api.Fwd, labels []int) []answer {
	c, names := Back(b)
	g, others := Fwd(f)
	p := Pick(f, labels)
	l := []answer{
		{rows: append(slices.Clone(c.Next), c.Out, names)},
		{rows: append(slices.Clone(g.Next), others), emits: slices.Clone(g.Emit)},
		{rows: slices.Clone(p.Next), emits: slices.Clone(p.Emit)},
	}
	for _, next := range [][][]int{c.Next, g.Next, p.Next} {
		clear(full(next))
	}
	clear(full(g.Emit))
	clear(full(p.Emit))
	return l
}

// An answer is the asker's own, its spare room too; no two lists of it share any; what was handed in may be spoilt behind the call (P2).
func TestAnswersAreNew(t *testing.T) {
	d := &dice{19}
	for range 400 {
		b, f, labels := d.given()
		x, y, l := roomyBack(b), roomyFwd(f), roomy(labels, 0)
		was := toldBack(x, l) + toldFwd(y, l)
		kept := calls(x, y, l)
		for call, other := range kept {
			want := other.lists()
			for which := range other.size() {
				a := calls(x, y, l)[call]
				said := a.lists()
				a.spoil(which)
				for i := range a.size() {
					if i != which && a.list(i) != said[i] {
						t.Fatalf("P2: call %d: lists %d and %d share memory: %s, then %s", call, which, i, said[i], a.list(i))
					}
				}
				if now := toldBack(x, l) + toldFwd(y, l); now != was || !slices.Equal(other.lists(), want) {
					t.Fatalf("P2: call %d: an answer shares memory with what was handed in, or with another: %s, now %s", call, was, now)
				}
			}
		}
		want := fmt.Sprint(kept)
		for _, next := range slices.Concat(x.Next, y.Next, [][]int{x.Out, l}) {
			for i := range full(next) {
				full(next)[i] = -7
			}
		}
		for _, emit := range y.Emit {
			clear(full(emit))
		}
		clear(full(x.Next))
		clear(full(y.Next))
		clear(full(y.Emit))
		if fmt.Sprint(kept) != want {
			t.Fatalf("P2: an answer keeps what was handed in: %v, not %s", kept, want)
		}
	}
}

// States may be handed in that share one list: those told do not (P2).
func TestSharedStates(t *testing.T) {
	next, emit := []int{1, 2}, []api.Vec{{1, 2, 3}}
	f := api.Fwd{Next: [][]int{next, {2, 1}, next}, Emit: [][]api.Vec{emit, {{0, 0, 0}}, emit}}
	g := Pick(f, []int{0, 0})
	g.Next[0][0], g.Emit[0][0] = 9, api.Vec{9, 9, 9}
	if got, want := tellFwd(g), "9 2: 9 9 9, 1 2 3; 2 1: 0 0 0, 0 0 0; 1 2: 1 2 3, 1 2 3"; got != want {
		t.Errorf("P2: Pick: %s, not %s", got, want)
	}
	f.Next[1], f.Emit[1] = next, emit[:1:1]
	f.Next[0] = next
	f.Emit[0] = []api.Vec{{5, 5, 5}}
	g, _ = Fwd(f)
	g.Next[0][0], g.Emit[1][0] = 9, api.Vec{9, 9, 9}
	if got, want := tellFwd(g), "9 1: 5 5 5; 1 1: 9 9 9"; got != want {
		t.Errorf("P2: Fwd: %s, not %s", got, want)
	}
	if row(next) != "1 2" || emit[0] != (api.Vec{1, 2, 3}) {
		t.Errorf("P2: %v, %v were changed", next, emit)
	}
}

// The same calls answer the same, whatever was asked between (P3).
func TestTheSameAgain(t *testing.T) {
	d := &dice{23}
	var asked []func() string
	var first []string
	for range 500 {
		b, f, labels := d.given()
		ask := func() string {
			c, names := Back(b)
			g, others := Fwd(f)
			return fmt.Sprint(c, names, g, others, Pick(f, labels))
		}
		asked, first = append(asked, ask), append(first, ask())
	}
	for i, ask := range slices.Backward(asked) {
		if got := ask(); got != first[i] {
			t.Errorf("P3: %s, then %s", first[i], got)
		}
	}
}

// No list and an empty one are the same (P2).
func TestNoListAndEmptyOne(t *testing.T) {
	c, names := Back(api.Back{Next: [][]int{nil, {}}, Out: []int{4, 5}})
	if tellBack(c) != ": 4" || row(names) != "0 -1" {
		t.Errorf("P2: Back: %s, names %v", tellBack(c), names)
	}
	g, names := Fwd(api.Fwd{Next: [][]int{{1}, {0}}, Emit: [][]api.Vec{nil, {}}})
	if tellFwd(g) != "0: " || row(names) != "0 0" {
		t.Errorf("P2: Fwd: %s, names %v", tellFwd(g), names)
	}
	for _, labels := range [][]int{nil, {}} {
		for _, emit := range [][]api.Vec{nil, {}} {
			f := api.Fwd{Next: [][]int{{1}, {0}}, Emit: [][]api.Vec{emit, nil}}
			if got := tellFwd(Pick(f, labels)); got != "1: ; 0: " {
				t.Errorf("P2: Pick: %s", got)
			}
		}
	}
}
