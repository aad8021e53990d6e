package seg

import (
	"testing"

	"hyphen/api"
	"hyphen/trop"
)

// ask is a window, a category, and what Best must tell of them.
type ask struct {
	lo, hi, cat int
	want        int
	is          bool
}

// best holds what Best tells of a row (P1302).
func best(t *testing.T, row []api.Vec, asked ...ask) {
	t.Helper()
	c := New(priced(row...))
	if c.Len() != len(row) {
		t.Fatalf("P1302: of %s: %d places", said(row), c.Len())
	}
	for _, x := range asked {
		if at, is := c.Best(x.lo, x.hi, x.cat); at != x.want || is != x.is {
			t.Errorf("P1302: of %s: Best of %d to %d, %d: %d, %v, not %d, %v", said(row), x.lo, x.hi, x.cat, at, is, x.want, x.is)
		}
		stands(t, c, 0, row[0])
	}
}

// Windows of one place, of some, of all: the cheapest one (P1302).
func TestBest(t *testing.T) {
	best(t, lines(3, 1, 4, 2, 5),
		ask{0, 4, 0, 1, true}, ask{0, 0, 0, 0, true}, ask{1, 1, 0, 1, true}, ask{2, 2, 0, 2, true}, ask{4, 4, 0, 4, true},
		ask{2, 4, 0, 3, true}, ask{0, 1, 0, 1, true}, ask{1, 4, 0, 1, true}, ask{2, 3, 0, 3, true}, ask{3, 4, 0, 3, true},
	)
	// The cheapest one at an end of the window, on either side of it cheaper ones.
	best(t, lines(0, 1, 2, 3, 0), ask{1, 3, 0, 1, true}, ask{2, 3, 0, 2, true}, ask{3, 3, 0, 3, true})
	best(t, lines(0, 3, 2, 1, 0), ask{1, 3, 0, 3, true}, ask{1, 2, 0, 2, true}, ask{1, 1, 0, 1, true})
}

// Of several that cost as much the last one (P1302).
func TestBestOfSeveral(t *testing.T) {
	best(t, lines(2, 2), ask{0, 1, 0, 1, true}, ask{0, 0, 0, 0, true})
	best(t, lines(1, 1, 1, 1), ask{0, 3, 0, 3, true}, ask{0, 2, 0, 2, true}, ask{1, 2, 0, 2, true})
	best(t, lines(1, 5, 1, 5, 1, 5), ask{0, 5, 0, 4, true}, ask{0, 3, 0, 2, true}, ask{1, 3, 0, 2, true}, ask{0, 1, 0, 0, true})
	best(t, lines(0, 0, 1), ask{0, 2, 0, 1, true})
	best(t, lines(7, api.Inf, 7, api.Inf), ask{0, 3, 0, 2, true}, ask{0, 1, 0, 0, true})
	best(t, lines(api.Inf-1, api.Inf-1, api.Inf), ask{0, 2, 0, 1, true})
}

// Places that are forbidden are not told; if all are, none is (P1302).
func TestBestOfForbidden(t *testing.T) {
	best(t, lines(api.Inf), ask{0, 0, 0, 0, false})
	best(t, lines(api.Inf, api.Inf, api.Inf), ask{0, 2, 0, 0, false}, ask{1, 2, 0, 0, false}, ask{2, 2, 0, 0, false})
	best(t, lines(5, api.Inf, api.Inf, 6), ask{1, 2, 0, 0, false}, ask{1, 1, 0, 0, false}, ask{1, 3, 0, 3, true}, ask{0, 2, 0, 0, true}, ask{0, 3, 0, 0, true})
	// As dear as can be, but not forbidden.
	best(t, lines(api.Inf, api.Inf-1, api.Inf), ask{0, 2, 0, 1, true}, ask{0, 0, 0, 0, false}, ask{2, 2, 0, 0, false})
	best(t, []api.Vec{trop.None(), trop.None()}, ask{0, 1, 0, 0, false}, ask{0, 1, 1, 0, false}, ask{0, 1, 2, 0, false})
}

// Each category by itself (P1302).
func TestBestOfCategories(t *testing.T) {
	best(t, []api.Vec{{1, 5, api.Inf}, {2, 3, api.Inf}, {3, 4, 9}, {api.Inf, api.Inf, 9}},
		ask{0, 3, 0, 0, true}, ask{0, 3, 1, 1, true}, ask{0, 3, 2, 3, true}, ask{0, 2, 2, 2, true}, ask{0, 1, 2, 0, false}, ask{3, 3, 0, 0, false}, ask{3, 3, 1, 0, false},
	)
}

// Windows and categories that are none (P1302).
func TestBestOfNoWindow(t *testing.T) {
	row := []api.Vec{{0, 0, 0}, {0, 0, 0}, {0, 0, 0}}
	best(t, row,
		ask{0, 2, 0, 2, true}, ask{0, 2, 2, 2, true},
		ask{-1, 2, 0, 0, false}, ask{-1, -1, 0, 0, false}, ask{0, -1, 0, 0, false}, ask{-2, -1, 0, 0, false},
		ask{0, 3, 0, 0, false}, ask{2, 3, 0, 0, false}, ask{3, 3, 0, 0, false}, ask{4, 3, 0, 0, false}, ask{-1, 3, 0, 0, false},
		ask{1, 0, 0, 0, false}, ask{2, 0, 0, 0, false}, ask{2, 1, 0, 0, false}, ask{3, 2, 0, 0, false},
		ask{0, 2, -1, 0, false}, ask{0, 2, 3, 0, false}, ask{1, 1, -1, 0, false}, ask{1, 1, 3, 0, false},
	)
	for _, n := range wild() {
		for _, m := range wild() {
			for cat := range 3 {
				at, is := bestOf(row, n, m, cat)
				best(t, row, ask{n, m, cat, at, is})
			}
			if n < 0 || n > 2 {
				best(t, row, ask{0, 2, n, 0, false}, ask{m, 2, n, 0, false}, ask{0, m, n, 0, false})
			}
		}
	}
}

// Thrown rows, each window, each category, held against the words alone (P1302, T5).
func TestThrownBest(t *testing.T) {
	d := &dice{37}
	for range 1000 {
		var row []api.Vec
		for range 1 + d.of(7) {
			var v api.Vec
			for cat := range v {
				v[cat] = pick(d, 0, 1, 2, api.MaxW, api.Inf-1, api.Inf, api.Inf, api.Inf)
			}
			row = append(row, v)
		}
		var asked []ask
		for lo := -1; lo <= len(row)+1; lo++ {
			for hi := -1; hi <= len(row)+1; hi++ {
				for cat := -1; cat <= 3; cat++ {
					at, is := bestOf(row, lo, hi, cat)
					asked = append(asked, ask{lo, hi, cat, at, is})
				}
			}
		}
		best(t, row, asked...)
	}
}
