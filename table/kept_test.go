package table

import (
	"fmt"
	"slices"
	"testing"

	"hyphen/api"
)

// roomy is l with spare room behind, full of v.
func roomy[T any](l []T, v T) []T {
	return append(slices.Clone(l), v, v, v)[:len(l)]
}

// full is l with all its spare room.
func full[T any](l []T) []T {
	return l[:cap(l)]
}

// roomyTable is t with spare room all through: what stands there would be more of each.
func roomyTable(t api.Table) api.Table {
	u := copied(t)
	for _, row := range rows(&u) {
		*row = roomy(*row, 0)
	}
	for state, vecs := range u.F.Emit {
		u.F.Emit[state] = roomy(vecs, api.Vec{})
	}
	u.B.Next, u.F.Next = roomy(u.B.Next, u.B.Next[0]), roomy(u.F.Next, u.F.Next[0])
	u.F.Emit = roomy(u.F.Emit, u.F.Emit[0])
	return u
}

// whole tells all of a table, with all spare room.
func whole(t api.Table) string {
	said := fmt.Sprint(len(t.B.Next), len(t.F.Next), len(t.F.Emit), full(t.Cuts), full(t.Letters), full(t.B.Out), len(t.Cuts), len(t.Letters), len(t.B.Out))
	for _, row := range slices.Concat(full(t.B.Next), full(t.F.Next)) {
		said += fmt.Sprint(full(row), len(row))
	}
	for _, vecs := range full(t.F.Emit) {
		said += fmt.Sprint(full(vecs), len(vecs))
	}
	return said
}

// What is handed in, its spare room too, stays as it was, and is not read further than it goes (P2).
func TestHandedInStays(t *testing.T) {
	d := &dice{17}
	for range 2000 {
		x := d.table(4, 4)
		y := roomyTable(x)
		was := whole(y)
		b := Save(x)
		if !Right(y) || !slices.Equal(Save(y), b) {
			t.Fatalf("P2: of spare room: %v", y)
		}
		if now := whole(y); now != was {
			t.Fatalf("P2: %s left %s", was, now)
		}
		for _, size := range []int{len(b), len(b) - 8, d.of(len(b))} {
			c := append(roomy(b, 7)[:size], b[size:]...)[:size]
			all := slices.Clone(full(c))
			_, is := Load(c)
			if sum := Sum(c); is != (size == len(b)) || sum != Sum(slices.Clone(c)) {
				t.Fatalf("P2: Load, Sum of %x with spare room: %v, %d", c, is, sum)
			}
			if !slices.Equal(full(c), all) {
				t.Fatalf("P2: %x left %x", all, full(c))
			}
		}
	}
}

// spoil writes over all of t, its spare room too.
func spoil(t api.Table) {
	for _, row := range slices.Concat([][]int{t.Cuts, t.Letters, t.B.Out}, full(t.B.Next), full(t.F.Next)) {
		for i := range full(row) {
			full(row)[i] = -7
		}
	}
	for _, vecs := range full(t.F.Emit) {
		clear(full(vecs))
	}
	clear(full(t.B.Next))
	clear(full(t.F.Next))
	clear(full(t.F.Emit))
}

// What was handed in may be spoilt behind the call, and one answer ahead of another (P2).
func TestAnswersAreNew(t *testing.T) {
	d := &dice{19}
	for range 500 {
		x := roomyTable(d.table(4, 4))
		want, was := fmt.Sprint(x), whole(x)
		b, other := Save(x), Save(x)
		saved := slices.Clone(full(other))
		spoilt := full(b)
		for i := range spoilt {
			spoilt[i] = 7
		}
		if whole(x) != was || !slices.Equal(full(other), saved) {
			t.Fatalf("P2: of %s: what is saved shares memory", want)
		}
		spoil(x)
		if !slices.Equal(full(other), saved) {
			t.Fatalf("P2: of %s: what is saved keeps what was handed in", want)
		}
		y, _ := Load(other)
		z, _ := Load(other)
		spoil(y)
		if fmt.Sprint(z) != want || !slices.Equal(full(other), saved) {
			t.Fatalf("P2: of %s: what is loaded shares memory", want)
		}
		clear(full(other))
		if fmt.Sprint(z) != want {
			t.Fatalf("P2: of %s: what is loaded keeps what was handed in", want)
		}
	}
}

// No two lists of one answer share memory, their spare room too; also where those that were saved did (P2).
func TestListsShareNothing(t *testing.T) {
	row, vecs := []int{0, 0, 0}, []api.Vec{{1, 2, 3}, {4, 5, 6}, {7, 8, 9}}
	shared := many()
	shared.B.Next = [][]int{row, row, row}
	shared.F.Next = [][]int{row, row}
	shared.F.Emit = [][]api.Vec{vecs, vecs}
	for _, x := range []api.Table{one(), many(), shared} {
		b := Save(x)
		want, _ := Load(b)
		for which := range rows(&want) {
			y, _ := Load(b)
			spared := *rows(&y)[which]
			*rows(&y)[which] = nil
			said := whole(y)
			for i := range full(spared) {
				full(spared)[i] = -7
			}
			if now := whole(y); now != said {
				t.Errorf("P2: list %d shares memory: %s, then %s", which, said, now)
			}
		}
		for state := range want.F.Emit {
			y, _ := Load(b)
			spared := y.F.Emit[state]
			y.F.Emit[state] = nil
			said := whole(y)
			clear(full(spared))
			if now := whole(y); now != said {
				t.Errorf("P2: Emit %d shares memory: %s, then %s", state, said, now)
			}
		}
	}
	x, _ := Load(Save(many()))
	y := x
	x.B.Next = nil
	said := whole(x)
	clear(full(y.B.Next))
	if now := whole(x); now != said {
		t.Errorf("P2: the lists of Next share memory: %s, then %s", said, now)
	}
	if row[0] != 0 || vecs[0] != (api.Vec{1, 2, 3}) {
		t.Errorf("P2: %v, %v were changed", row, vecs)
	}
}

// The same calls answer the same, whatever was asked between (P3).
func TestTheSameAgain(t *testing.T) {
	d := &dice{23}
	var asked []func() string
	var first []string
	for range 1000 {
		x := d.table(4, 4)
		b := Save(x)
		if d.of(3) == 0 {
			b[d.of(len(b))]++
		}
		if d.of(3) == 0 {
			d.spoil(&x)
		}
		ask := func() string {
			y, is := Load(b)
			return fmt.Sprint(Right(x), Save(x), y, is, Sum(b))
		}
		asked, first = append(asked, ask), append(first, ask())
	}
	for i, ask := range slices.Backward(asked) {
		if got := ask(); got != first[i] {
			t.Errorf("P3: %s, then %s", first[i], got)
		}
	}
}
