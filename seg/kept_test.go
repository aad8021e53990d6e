package seg

import (
	"fmt"
	"slices"
	"strings"
	"sync"
	"testing"

	"hyphen/api"
)

// roomy is l with spare room behind, full of v.
func roomy[T any](l []T, v T) []T {
	return append(slices.Clone(l), v, v, v)[:len(l)]
}

// full is l with all its spare room.
func full[T any](l []T) []T {
	return l[:cap(l)]
}

// roomyTable is t with spare room all through: what stands there would be more of each.
func roomyTable(t api.Table) api.Table {
	u := copied(t)
	for _, row := range []*[]int{&u.Cuts, &u.Letters, &u.B.Out} {
		*row = roomy(*row, 0)
	}
	for _, next := range [][][]int{u.B.Next, u.F.Next} {
		for state, row := range next {
			next[state] = roomy(row, 0)
		}
	}
	for state, vecs := range u.F.Emit {
		u.F.Emit[state] = roomy(vecs, api.Vec{})
	}
	u.B.Next, u.F.Next = roomy(u.B.Next, u.B.Next[0]), roomy(u.F.Next, u.F.Next[0])
	u.F.Emit = roomy(u.F.Emit, u.F.Emit[0])
	return u
}

// whole tells all of a table, with all spare room.
func whole(t api.Table) string {
	said := fmt.Sprint(len(t.B.Next), len(t.F.Next), len(t.F.Emit), full(t.Cuts), full(t.Letters), full(t.B.Out), len(t.Cuts), len(t.Letters), len(t.B.Out))
	for _, row := range slices.Concat(full(t.B.Next), full(t.F.Next)) {
		said += fmt.Sprint(full(row), len(row))
	}
	for _, vecs := range full(t.F.Emit) {
		said += fmt.Sprint(full(vecs), len(vecs))
	}
	return said
}

// spoilAll writes over all of t, its spare room too.
func spoilAll(t api.Table) {
	for _, row := range slices.Concat([][]int{t.Cuts, t.Letters, t.B.Out}, full(t.B.Next), full(t.F.Next)) {
		for i := range full(row) {
			full(row)[i] = -7
		}
	}
	for _, vecs := range full(t.F.Emit) {
		clear(full(vecs))
	}
	clear(full(t.B.Next))
	clear(full(t.F.Next))
	clear(full(t.F.Emit))
}

// toEnd goes all the way on, and tells what was there.
func toEnd(c *Cursor) string {
	said := answers(c)
	for c.Next() {
		at, v := c.At()
		said += fmt.Sprint(" ", at, v)
	}
	return said
}

// Tables, their spare room too, stay as they were, and are not read further than they go (P2).
func TestHandedInStays(t *testing.T) {
	d := &dice{17}
	for range 2000 {
		x := d.table(4, 4)
		y := roomyTable(x)
		s, scalars := d.text(d.of(6))
		if d.of(4) == 0 {
			s = strings.Repeat("a", 4001)
		}
		was, text := whole(y), strings.Clone(s)
		row, e := Segment(y, s)
		c := New(y, s)
		if e == api.OK && !slices.Equal(row, plainly(x, scalars)) {
			t.Fatalf("P2: of spare room: %v over %q: %s", y, s, said(row))
		}
		toEnd(c)
		c.Seek(0)
		c.Prev()
		if now := whole(y); now != was || s != text {
			t.Fatalf("P2, P7: %s over %q left %s, %q", was, text, now, s)
		}
	}
}

// What is no table stays as it was, too (P2).
func TestNoTableStays(t *testing.T) {
	for _, x := range turns() {
		y := many()
		x.by(&y)
		was := whole(y)
		Segment(y, "bae")
		toEnd(New(y, "bae"))
		if now := whole(y); now != was {
			t.Errorf("P2: %s: %.300s left %.300s", x.why, was, now)
		}
	}
}

// What was handed in may be spoilt behind the call, and one answer ahead of another (P2, P7).
func TestAnswersAreNew(t *testing.T) {
	d := &dice{19}
	for range 1000 {
		x := roomyTable(d.table(4, 4))
		s, _ := d.text(d.of(6))
		row, _ := Segment(x, s)
		other, _ := Segment(x, s)
		c, want, was := New(x, s), toEnd(New(x, s)), whole(x)
		rowSaid := said(other)
		clear(full(row))
		if whole(x) != was || said(other) != rowSaid || toEnd(c) != want {
			t.Fatalf("P2: of %s over %q: what Segment answers shares memory", was, s)
		}
		c = New(x, s)
		spoilAll(x)
		if said(other) != rowSaid || toEnd(c) != want {
			t.Fatalf("P2: of %s over %q: the table is kept", was, s)
		}
	}
}

// Vecs that At answers are the asker's own (P2).
func TestVecsAreNew(t *testing.T) {
	c := New(pairs(), "a b")
	_, v := c.At()
	v[0], v[1], v[2] = 9, 9, 9
	stands(t, c, 0, pairsRow(1, 2, 1)[0])
}

// What a cursor tells hangs on its place alone, not on the way there, nor on what it was asked (P1302, T5).
func TestPlaceAlone(t *testing.T) {
	d := &dice{23}
	for range 300 {
		x := d.table(4, 4)
		s, _ := d.text(1 + d.of(6))
		c := New(x, s)
		for range 20 {
			d.play(c)
			at, _ := c.At()
			other := New(x, s)
			if !other.Seek(at) {
				t.Fatalf("P1302: Seek to %d: false", at)
			}
			if got, want := answers(c), answers(other); got != want {
				t.Fatalf("P1302: of %q at %d: %s, not %s", s, at, got, want)
			}
			if got, want := c.Next(), other.Next(); got != want {
				t.Fatalf("P1302: of %q at %d: Next: %v, not %v", s, at, got, want)
			}
			if got, want := answers(c), answers(other); got != want {
				t.Fatalf("P1302: of %q behind %d: %s, not %s", s, at, got, want)
			}
		}
	}
}

// play asks a cursor something.
func (d *dice) play(c *Cursor) {
	switch d.of(5) {
	case 0:
		c.Next()
	case 1:
		c.Prev()
	case 2:
		c.Seek(pick(d, wild()...))
	case 3:
		c.Seek(d.of(c.Len()+2) - 1)
	default:
		c.Best(d.of(c.Len()+2)-1, d.of(c.Len()+2)-1, d.of(5)-1)
	}
}

// Cursors, over one text or several, do not touch one another (P7).
func TestCursorsSideBySide(t *testing.T) {
	d := &dice{41}
	x := many()
	one, other, third := New(x, "bae a"), New(x, "bae a"), New(x, "ee")
	was, thirdWas := answers(other), answers(third)
	for range 2000 {
		d.play(one)
		if answers(other) != was || answers(third) != thirdWas {
			t.Fatal("P7: one cursor moves another")
		}
		if d.of(9) == 0 {
			d.play(other)
			was = answers(other)
		}
		// One that comes later begins at its own place 0.
		if at, _ := New(x, "bae a").At(); at != 0 {
			t.Fatalf("P7: a new cursor is at %d", at)
		}
	}
	// A copy stays where it was when its fellow goes on.
	laid := *one
	at, v := laid.At()
	for range 50 {
		d.play(one)
		stands(t, &laid, at, v)
	}
}

// Several may go over one table at once (P2, P7).
func TestAtOnce(t *testing.T) {
	x := many()
	want := toEnd(New(x, "bae a"))
	row, _ := Segment(x, "ebb")
	var wait sync.WaitGroup
	for range 8 {
		wait.Go(func() {
			for range 50 {
				got, _ := Segment(x, "ebb")
				if toEnd(New(x, "bae a")) != want || !slices.Equal(got, row) {
					t.Error("P7: at once they tell something else")
				}
			}
		})
	}
	wait.Wait()
}

// The same calls answer the same, whatever was asked between (P3).
func TestTheSameAgain(t *testing.T) {
	d := &dice{43}
	var asked []func() string
	var first []string
	for range 1000 {
		x := d.table(4, 4)
		s, _ := d.text(d.of(6))
		if d.of(3) == 0 {
			d.spoil(&x)
		}
		seed := d.n
		ask := func() string {
			row, e := Segment(x, s)
			c := New(x, s)
			told := fmt.Sprint(row, e, answers(c))
			moves := &dice{seed}
			for range 10 {
				moves.play(c)
				told += answers(c)
			}
			return told
		}
		asked, first = append(asked, ask), append(first, ask())
	}
	for i, ask := range slices.Backward(asked) {
		if got := ask(); got != first[i] {
			t.Fatalf("P3: %s, then %s", first[i], got)
		}
	}
}
