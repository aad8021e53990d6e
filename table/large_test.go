package table

import (
	"slices"
	"testing"

	"hyphen/api"
)

// numbered tells 0 to size - 1.
func numbered(size int) []int {
	var l []int
	for n := range size {
		l = append(l, n)
	}
	return l
}

// longCuts has so many cuts, of one letter.
func longCuts(size int) api.Table {
	x := one()
	x.Cuts, x.Letters = numbered(size), make([]int, size)
	return x
}

// longNext has so many letters.
func longNext(size int) api.Table {
	x := longCuts(size)
	x.Letters = numbered(size)
	x.B.Next[0], x.F.Next[0] = make([]int, size), make([]int, size)
	return x
}

// longBack has so many states that go backward.
func longBack(size int) api.Table {
	x := one()
	x.B = api.Back{Out: make([]int, size)}
	for state := range size {
		x.B.Next = append(x.B.Next, []int{size - 1 - state})
	}
	return x
}

// longFwd has so many that go forward.
func longFwd(size int) api.Table {
	x := one()
	x.F = api.Fwd{}
	for state := range size {
		x.F.Next, x.F.Emit = append(x.F.Next, []int{size - 1 - state}), append(x.F.Emit, []api.Vec{{state, 0, api.Inf}})
	}
	return x
}

// longEmit has so many Vecs in an Emit.
func longEmit(size int) api.Table {
	x := one()
	x.B.Out[0] = size - 1
	x.F.Emit[0] = nil
	for label := range size {
		x.F.Emit[0] = append(x.F.Emit[0], api.Vec{api.Inf, label, 0})
	}
	return x
}

// Lists of 100000, and of 100001 (P1201, P1202, P1203).
func TestLongLists(t *testing.T) {
	for i, long := range []func(size int) api.Table{longCuts, longNext, longBack, longFwd, longEmit} {
		x := long(100000)
		if !Right(x) {
			t.Fatalf("P1201: long %d: not right", i)
		}
		b := Save(x)
		if !slices.Equal(b, plainly(x)) {
			t.Fatalf("P1202: long %d: not saved as it is told", i)
		}
		y, is := Load(b)
		if !is || !slices.Equal(told(y), told(x)) {
			t.Fatalf("P1203: long %d: not loaded as it was saved", i)
		}
		x = long(100001)
		if Right(x) || len(Save(x)) > 0 {
			t.Errorf("P1201: long %d: one more is right", i)
		}
		if y, is := Load(plainly(x)); is || !isEmpty(y) {
			t.Errorf("P1202: long %d: one more is loaded", i)
		}
	}
}

// A list of 100001 in one place alone, where the others do not follow (P1201).
func TestOneLongList(t *testing.T) {
	long := numbered(100001)
	held(t, false,
		turn{"Outs", func(x *api.Table) { x.B.Out = make([]int, 100001) }},
		turn{"Emits", func(x *api.Table) { x.F.Emit = slices.Repeat([][]api.Vec{{{}, {}, {}}}, 100001) }},
	)
	for i := range rows(&api.Table{B: api.Back{Next: make([][]int, 3)}, F: api.Fwd{Next: make([][]int, 2)}}) {
		x := many()
		*rows(&x)[i] = long
		if Right(x) || len(Save(x)) > 0 {
			t.Errorf("P1201: a long list in place %d is right", i)
		}
	}
}
