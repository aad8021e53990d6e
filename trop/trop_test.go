package trop

import (
	"math"
	"slices"
	"testing"

	"hyphen/api"
)

// costs: ordinary ones, and those around each edge: 0, half of Inf, Inf.
func costs() []int {
	return []int{0, 1, 2, 7, 10, api.MaxW, api.Inf/2 - 1, api.Inf / 2, api.Inf/2 + 1, api.Inf - 2, api.Inf - 1, api.Inf}
}

func TestAdd(t *testing.T) {
	for _, c := range []struct{ a, b, want int }{
		{0, 0, 0},
		{0, 5, 5},
		{3, 4, 7},
		{api.MaxW, api.MaxW, 2000000},
		{api.Inf / 2, api.Inf/2 - 1, 1152921504606846975},
		{api.Inf / 2, api.Inf / 2, api.Inf},
		{api.Inf / 2, api.Inf/2 + 1, api.Inf},
		{api.Inf - 1, 0, api.Inf - 1},
		{api.Inf - 1, 1, api.Inf},
		{api.Inf - 1, 2, api.Inf},
		{api.Inf - 1, api.Inf - 1, api.Inf},
		{api.Inf, 0, api.Inf},
		{api.Inf, 1, api.Inf},
		{api.Inf, api.Inf - 1, api.Inf},
		{api.Inf, api.Inf, api.Inf},
	} {
		if got := Add(c.a, c.b); got != c.want {
			t.Errorf("P101: Add %d, %d: %d, not %d", c.a, c.b, got, c.want)
		}
		if got := Add(c.b, c.a); got != c.want {
			t.Errorf("P101: Add %d, %d: %d, not %d", c.b, c.a, got, c.want)
		}
	}
}

// Sums of three hang on no order: a sum is Inf exactly when all of it is Inf or more (W3).
func TestAddInAnyOrder(t *testing.T) {
	for _, a := range costs() {
		for _, b := range costs() {
			for _, c := range costs() {
				want := min(a+b+c, api.Inf)
				if got := Add(Add(a, b), c); got != want {
					t.Errorf("P101: Add of %d and %d, and %d: %d, not %d", a, b, c, got, want)
				}
				if got := Add(a, Add(b, c)); got != want {
					t.Errorf("P101: Add of %d, and %d and %d: %d, not %d", a, b, c, got, want)
				}
			}
		}
	}
}

func TestMin(t *testing.T) {
	for _, c := range []struct {
		l    []int
		want int
	}{
		{nil, api.Inf},
		{[]int{}, api.Inf},
		{[]int{0}, 0},
		{[]int{9}, 9},
		{[]int{api.Inf}, api.Inf},
		{[]int{api.Inf - 1}, api.Inf - 1},
		{[]int{api.Inf, api.Inf - 1}, api.Inf - 1},
		{[]int{api.Inf, api.Inf, api.Inf}, api.Inf},
		{[]int{3, 1, 2}, 1},
		{[]int{1, 2, 3}, 1},
		{[]int{3, 2, 1}, 1},
		{[]int{5, 5, 5, 5}, 5},
		{[]int{4, 0, api.Inf, 7}, 0},
	} {
		if got := Min(c.l...); got != c.want {
			t.Errorf("P101: Min %v: %d, not %d", c.l, got, c.want)
		}
	}
	if got := Min(); got != api.Inf {
		t.Errorf("P101: Min of none: %d", got)
	}
}

// The least of many is found wherever it stands.
func TestMinOfMany(t *testing.T) {
	for at := range 1000 {
		l := make([]int, 1000)
		for i := range l {
			l[i] = api.MaxW + i
		}
		l[at] = 17
		if got := Min(l...); got != 17 {
			t.Fatalf("P101: Min of 1000, the least at %d: %d", at, got)
		}
	}
}

func TestBoth(t *testing.T) {
	inf := api.Inf
	for _, c := range []struct{ a, b, want api.Vec }{
		{api.Vec{}, api.Vec{}, api.Vec{}},
		{api.Vec{1, 2, 3}, api.Vec{1, 2, 3}, api.Vec{1, 2, 3}},
		{api.Vec{1, 5, 3}, api.Vec{4, 2, 3}, api.Vec{1, 2, 3}},
		{api.Vec{1, 2, 9}, api.Vec{2, 3, 8}, api.Vec{1, 2, 8}},
		{api.Vec{3, inf, 7}, api.Vec{5, 2, inf}, api.Vec{3, 2, 7}},
		{api.Vec{inf, inf, inf}, api.Vec{1, 2, 3}, api.Vec{1, 2, 3}},
		{api.Vec{inf, inf, inf}, api.Vec{inf, inf, inf}, api.Vec{inf, inf, inf}},
		{api.Vec{inf, inf, inf - 1}, api.Vec{inf, inf, inf}, api.Vec{inf, inf, inf - 1}},
		{api.Vec{0, 0, 0}, api.Vec{inf, inf, inf}, api.Vec{0, 0, 0}},
	} {
		if got := Both(c.a, c.b); got != c.want {
			t.Errorf("P101: Both %v, %v: %v, not %v", c.a, c.b, got, c.want)
		}
		if got := Both(c.b, c.a); got != c.want {
			t.Errorf("P101: Both %v, %v: %v, not %v", c.b, c.a, got, c.want)
		}
	}
}

func TestPlus(t *testing.T) {
	inf := api.Inf
	for _, c := range []struct {
		v    api.Vec
		n    int
		want api.Vec
	}{
		{api.Vec{}, 0, api.Vec{}},
		{api.Vec{}, 4, api.Vec{4, 4, 4}},
		{api.Vec{1, 2, 3}, 0, api.Vec{1, 2, 3}},
		{api.Vec{1, 2, 3}, 10, api.Vec{11, 12, 13}},
		{api.Vec{3, inf, 7}, 4, api.Vec{7, inf, 11}},
		{api.Vec{inf - 2, inf - 1, inf}, 1, api.Vec{inf - 1, inf, inf}},
		{api.Vec{inf - 2, inf - 1, inf}, 0, api.Vec{inf - 2, inf - 1, inf}},
		{api.Vec{inf, inf, 5}, 1, api.Vec{inf, inf, 6}},
		{api.Vec{5, inf, inf}, 1, api.Vec{6, inf, inf}},
		{api.Vec{1, 2, 3}, inf - 2, api.Vec{inf - 1, inf, inf}},
		{api.Vec{0, 1, inf}, inf, api.Vec{inf, inf, inf}},
		{api.Vec{inf, inf, inf}, 0, api.Vec{inf, inf, inf}},
		{api.Vec{inf, inf, inf}, 9, api.Vec{inf, inf, inf}},
		{api.Vec{inf, inf, inf}, inf, api.Vec{inf, inf, inf}},
	} {
		if got := Plus(c.v, c.n); got != c.want {
			t.Errorf("P101: Plus %v, %d: %v, not %v", c.v, c.n, got, c.want)
		}
	}
}

// Number by number: each of the three is what Min, what Add tells of it alone.
func TestNumberByNumber(t *testing.T) {
	l := costs()
	for i, a := range l {
		for j, b := range l {
			v := api.Vec{a, b, l[(i+j)%len(l)]}
			w := api.Vec{b, l[(i+2*j)%len(l)], a}
			both, plus := Both(v, w), Plus(v, b)
			for k := range v {
				if want := min(v[k], w[k]); both[k] != want {
					t.Errorf("P101: Both %v, %v: %v: at %d not %d", v, w, both, k, want)
				}
				if want := min(v[k]+b, api.Inf); plus[k] != want {
					t.Errorf("P101: Plus %v, %d: %v: at %d not %d", v, b, plus, k, want)
				}
			}
		}
	}
}

func TestNone(t *testing.T) {
	want := api.Vec{1 << 60, 1 << 60, 1 << 60}
	if got := None(); got != want {
		t.Errorf("P101: None: %v", got)
	}
}

func TestText(t *testing.T) {
	inf := api.Inf
	for _, c := range []struct {
		v    api.Vec
		want string
	}{
		{None(), "- - -"},
		{api.Vec{}, "0 0 0"},
		{api.Vec{1, 2, 3}, "1 2 3"},
		{api.Vec{3, inf, 7}, "3 - 7"},
		{api.Vec{inf, 0, inf}, "- 0 -"},
		{api.Vec{0, inf, inf}, "0 - -"},
		{api.Vec{inf, inf, 0}, "- - 0"},
		{api.Vec{10, 100, 1000000}, "10 100 1000000"},
		{api.Vec{inf - 1, 12, inf}, "1152921504606846975 12 -"},
	} {
		if got := Text(c.v); got != c.want {
			t.Errorf("P101: Text %v: %q, not %q", c.v, got, c.want)
		}
	}
}

// What is handed in, its spare room too, stays as it was (P2).
func TestHandedInStays(t *testing.T) {
	room := []int{5, api.Inf, 3, 0, 8, 1}
	was := slices.Clone(room)
	if got := Min(room[:3]...); got != 3 {
		t.Errorf("P101: Min beside spare room: %d", got)
	}
	if !slices.Equal(room, was) {
		t.Errorf("P2: Min left %v of %v", room, was)
	}
	v, w := api.Vec{3, api.Inf, 7}, api.Vec{5, 2, api.Inf}
	Both(v, w)
	Plus(v, 4)
	Text(v)
	if v != (api.Vec{3, api.Inf, 7}) || w != (api.Vec{5, 2, api.Inf}) {
		t.Errorf("P2: left %v, %v", v, w)
	}
}

// What is answered is the asker's own: a change to it is seen in no later answer (P2, P3).
func TestAnswersAreNew(t *testing.T) {
	v := None()
	v[1] = 0
	if None() != (api.Vec{api.Inf, api.Inf, api.Inf}) || Text(None()) != "- - -" {
		t.Error("P2: None after a change of what it answered")
	}
	l := []int{4, 2}
	Min(l...)
	l[1] = 9
	if got := Min(l...); got != 4 {
		t.Errorf("P2: Min of a list that was changed: %d", got)
	}
}

func TestSameAgain(t *testing.T) {
	for _, a := range costs() {
		for _, b := range costs() {
			v, w := api.Vec{a, b, a}, api.Vec{b, b, a}
			if Add(a, b) != Add(a, b) || Min(a, b) != Min(a, b) || Both(v, w) != Both(v, w) || Plus(v, b) != Plus(v, b) || Text(v) != Text(v) {
				t.Errorf("P3: %d, %d", a, b)
			}
		}
	}
}

// Numbers that are no costs: nothing is promised of the answer, but every call ends and none panics (P1, P8), nor changes what it was given (P2).
func TestNoCosts(t *testing.T) {
	l := []int{math.MinInt, -api.Inf, -1, api.Inf + 1, 2 * api.Inf, math.MaxInt}
	was := slices.Clone(l)
	Min(l...)
	for _, a := range l {
		for _, b := range append(costs(), l...) {
			v, w := api.Vec{a, b, a}, api.Vec{b, a, 0}
			Add(a, b)
			Add(b, a)
			Both(v, w)
			Plus(v, b)
			Plus(w, a)
			Text(v)
			if v != (api.Vec{a, b, a}) || w != (api.Vec{b, a, 0}) {
				t.Errorf("P2: left %v, %v of %d, %d", v, w, a, b)
			}
		}
	}
	if !slices.Equal(l, was) {
		t.Errorf("P2: left %v of %v", l, was)
	}
}
