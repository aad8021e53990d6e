package side

import (
	"testing"

	"hyphen/api"
	"hyphen/syn"
)

// trims holds what Trim tells of a pattern's positions.
func trims(t *testing.T, pattern, want string) {
	t.Helper()
	x, f := left(t, pattern)
	if got := said(Trim(made(t, x, f), rows(f))); got != want {
		t.Errorf("P702: Trim of %.200q: %s, not %s", pattern, got, want)
	}
}

// Where all are of use, all stay (P702).
func TestTrimOfAllOfUse(t *testing.T) {
	for _, pattern := range []string{"", "() @ 3", "a", ".", "a b", "a | b", "(a @ 2 | b @ 1)* v", "(a | () @ 3){2,3}", "w{0,12}", "((a b @ 4){1,2} | v*)* @ 2"} {
		x, f := left(t, pattern)
		s := made(t, x, f)
		trims(t, pattern, said(s))
	}
}

// Positions whose set has no letter go; the others are numbered anew, and stay as they are (P702).
func TestTrimOfSetsOfNothing(t *testing.T) {
	trims(t, "o", "; ; ; ; -")
	trims(t, "o @ 4 | () @ 3", "; ; ; ; 3")
	trims(t, "o*", "; ; ; ; 0")
	trims(t, "o{0,3}", "; ; ; ; 0")
	trims(t, "a | o", "0; 0; 0; ; -")
	trims(t, "o | a @ 7", "0; 7; 0; ; -")
	trims(t, "o | . | o", "-1; 0; 0; ; -")
	trims(t, "a (o | ) b", "0 1; 0 -; - 0; 0>1:0; -")
	trims(t, "a (o | () @ 3) b @ 2", "0 1; 0 -; - 0; 0>1:5; -")
	trims(t, "(o | a @ 4)* b", "0 1; 4 0; - 0; 0>0:4 0>1:0; -")
	trims(t, "(a o* b)*", "0 1; 0 -; - 0; 0>1:0 1>0:0; 0")
	trims(t, "(o | a){2,2}", "0 0; 0 -; - 0; 0>1:0; -")
	trims(t, "(o @ 1 | a | () @ 2){1,3}", "0 0 0; 0 2 4; 0 0 0; 0>1:0 0>2:2 1>2:0; 2")
	trims(t, "o* m o* . o* a o*", "5 -1 0; 0 - -; - - 0; 0>1:0 1>2:0; -")
}

// Those go that no way from a First leads to, or that none leads from to an Ends; ways over sets of nothing are none (P702).
func TestTrimOfWays(t *testing.T) {
	trims(t, "a o", "; ; ; ; -")
	trims(t, "o a", "; ; ; ; -")
	trims(t, ". o .", "; ; ; ; -")
	trims(t, "a b o v w", "; ; ; ; -")
	trims(t, "a b o | v", "2; 0; 0; ; -")
	trims(t, "o a b | v", "2; 0; 0; ; -")
	trims(t, "v | a b o | a b", "2 0 1; 0 0 -; 0 - 0; 1>2:0; -")
	trims(t, "a (o b)* a @ 2", "0 0; 0 -; - 0; 0>1:2; -")
	trims(t, "a (b o)* a @ 2", "0 0; 0 -; - 0; 0>1:2; -")
	trims(t, "(a o)* b (o a)*", "1; 0; 0; ; -")
	trims(t, "(a b o | () @ 5) (v | o a)", "2; 5; 0; ; -")
	trims(t, "(a o b)*", "; ; ; ; 0")
	trims(t, "(a* o b*)*", "; ; ; ; 0")
	trims(t, "(a* o b*)* @ 3 w", "4; 3; 0; ; -")
	trims(t, "(a o){0,2} a", "0; 0; 0; ; -")
	trims(t, "(a | o b){2,3}", "0 0 0; 0 - -; - 0 0; 0>1:0 1>2:0; -")
	trims(t, "(a o | b){1,2}", "1 1; 0 -; 0 0; 0>1:0; -")
	// A round that is of no use, though each in it leads to the next.
	trims(t, "o (a b)* o | v", "2; 0; 0; ; -")
	trims(t, "o (a b)* v", "; ; ; ; -")
	trims(t, "v (a b)* o", "; ; ; ; -")
}

// What costs Inf leads nowhere (W3, P702).
func TestTrimOfWhatIsForbidden(t *testing.T) {
	_, f := left(t, "")
	all := nested(cost(none(), api.MaxW), 12, 12, 14)
	for _, c := range []struct {
		x    api.Rex
		want string
	}{
		{cat(all, set("a")), "; ; ; ; -"},
		{cat(set("a"), all), "; ; ; ; -"},
		{cat(cat(set("a"), all), set("b")), "; ; ; ; -"},
		{alt(cat(cat(set("a"), all), set("b")), dot()), "-1; 0; 0; ; -"},
		{many0(cat(set("a"), alt(all, set("b")))), "0 1; 0 -; - 0; 0>1:0 1>0:0; 0"},
	} {
		if got := said(Trim(made(t, c.x, f), rows(f))); got != c.want {
			t.Errorf("P702: Trim: %s, not %s", got, c.want)
		}
	}
}

// in, handed in, tells which sets have letters: not the file (P702).
func TestTrimByRows(t *testing.T) {
	x, f := left(t, "a (b | v)* a | w | .")
	s := made(t, x, f)
	for _, c := range []struct {
		in   [][]bool
		want string
	}{
		{[][]bool{{true}, {true}, {true}, {true}, {true}, {true}}, "0 1 2 0 4 -1; 0 - - - 0 0; - - - 0 0 0; 0>1:0 0>2:0 0>3:0 1>1:0 1>2:0 1>3:0 2>1:0 2>2:0 2>3:0; -"},
		{[][]bool{{false, true}, {false, false}, {true, false}, {false, false}, {false, false}, {false, false}}, "0 2 0 -1; 0 - - 0; - - 0 0; 0>1:0 0>2:0 1>1:0 1>2:0; -"},
		{[][]bool{{false, false, false}, {true, true, true}, {true, false, true}, {false, false, false}, {false, false, true}, {false, false, false}}, "4 -1; 0 0; 0 0; ; -"},
		{[][]bool{{false}, {false}, {false}, {false}, {false}, {false}}, "-1; 0; 0; ; -"},
	} {
		if got := said(Trim(s, c.in)); got != c.want {
			t.Errorf("P702: Trim by %v: %s, not %s", c.in, got, c.want)
		}
	}
	// No Defs, no rows: any scalar is one all the same.
	x = cat(dot(), many0(dot()))
	s = made(t, x, api.File{})
	if got := said(Trim(s, nil)); got != said(s) {
		t.Errorf("P702: Trim by no rows: %s", got)
	}
}

// useful tells by the words of P702 which positions stay: by ways of any length, step by step.
func useful(s api.Side, in [][]bool) []bool {
	open := func(at int) bool {
		any := s.Sets[at] < 0
		for i := 0; !any && i < len(in[s.Sets[at]]); i++ {
			any = in[s.Sets[at]][i]
		}
		return any
	}
	begun, ended, is := make([]bool, len(s.Sets)), make([]bool, len(s.Sets)), make([]bool, len(s.Sets))
	for at := range s.Sets {
		begun[at], ended[at] = open(at) && s.First[at] < api.Inf, open(at) && s.Ends[at] < api.Inf
	}
	for range s.Sets {
		for _, a := range s.Arcs {
			begun[a.To] = begun[a.To] || begun[a.From] && open(a.To)
			ended[a.From] = ended[a.From] || ended[a.To] && open(a.From)
		}
	}
	for at := range s.Sets {
		is[at] = begun[at] && ended[at]
	}
	return is
}

// Thrown patterns: those stay that P702 says, as they are, in their order; told again they stay.
func TestTrimOfThrown(t *testing.T) {
	_, f := left(t, "")
	d := &dice{23}
	shorter, emptied := 0, 0
	for range 4000 {
		x := d.made(1+d.of(6), 4)
		if d.of(3) == 0 {
			x = cat(x, cat(pick(d, set("o"), none(), alt(set("o"), none())), d.rex(2, 3)))
		}
		s, is := Make(x, f)
		if !is {
			continue
		}
		in := rows(f)
		for i := range in {
			if d.of(5) == 0 {
				in[i] = make([]bool, len(in[i]))
			}
		}
		got := Trim(s, in)
		want := api.Side{None: s.None}
		names := make([]int, len(s.Sets))
		for at, is := range useful(s, in) {
			names[at] = -1
			if is {
				names[at] = len(want.Sets)
				want.Sets, want.First, want.Ends = append(want.Sets, s.Sets[at]), append(want.First, s.First[at]), append(want.Ends, s.Ends[at])
			}
		}
		for _, a := range s.Arcs {
			if names[a.From] >= 0 && names[a.To] >= 0 {
				want.Arcs = append(want.Arcs, api.Arc{From: names[a.From], To: names[a.To], W: a.W})
			}
		}
		if said(got) != said(want) {
			t.Fatalf("P702: Trim of %s: %s, not %s", syn.Rex(x), said(got), said(want))
		}
		if again := Trim(got, in); said(again) != said(got) {
			t.Fatalf("P702: %s, trimmed again: %s, not %s", syn.Rex(x), said(again), said(got))
		}
		if len(got.Sets) < len(s.Sets) {
			shorter++
		}
		if len(got.Sets) == 0 && len(s.Sets) > 0 {
			emptied++
		}
	}
	if shorter < 500 || shorter-emptied < 100 {
		t.Errorf("only %d were shorter, %d of them empty", shorter, emptied)
	}
}
