package side

import (
	"fmt"
	"slices"
	"strings"
	"testing"

	"hyphen/api"
	"hyphen/syn"
)

// Each kind of pattern, by itself (P701).
func TestMakeOfEachKind(t *testing.T) {
	makes(t, "", "; ; ; ; 0")
	makes(t, "()", "; ; ; ; 0")
	makes(t, "a", "0; 0; 0; ; -")
	makes(t, ".", "-1; 0; 0; ; -")
	makes(t, "a b", "0 1; 0 -; - 0; 0>1:0; -")
	makes(t, "a () b", "0 1; 0 -; - 0; 0>1:0; -")
	makes(t, "() a b ()", "0 1; 0 -; - 0; 0>1:0; -")
	makes(t, "a b a", "0 1 0; 0 - -; - - 0; 0>1:0 1>2:0; -")
	makes(t, "a (b a)", "0 1 0; 0 - -; - - 0; 0>1:0 1>2:0; -")
	makes(t, "a | b", "0 1; 0 0; 0 0; ; -")
	makes(t, "a | ", "0; 0; 0; ; 0")
	makes(t, "() | ()", "; ; ; ; 0")
	makes(t, "a b | b a", "0 1 1 0; 0 - 0 -; - 0 - 0; 0>1:0 2>3:0; -")
	makes(t, "a (b | ) a", "0 1 0; 0 - -; - - 0; 0>1:0 0>2:0 1>2:0; -")
	makes(t, "(a | ) (b | )", "0 1; 0 0; 0 0; 0>1:0; 0")
	makes(t, "a*", "0; 0; 0; 0>0:0; 0")
	makes(t, "()*", "; ; ; ; 0")
	makes(t, "(a b)*", "0 1; 0 -; - 0; 0>1:0 1>0:0; 0")
	makes(t, "(a | b)*", "0 1; 0 0; 0 0; 0>0:0 0>1:0 1>0:0 1>1:0; 0")
	makes(t, "a* b", "0 1; 0 0; - 0; 0>0:0 0>1:0; -")
	makes(t, "a{1,1}", "0; 0; 0; ; -")
	makes(t, "a @ 0", "0; 0; 0; ; -")
}

// Which Def a position is of: by the Def's place; -1: any (P701).
func TestSetsByTheirDefs(t *testing.T) {
	makes(t, "m w o v b a", "5 4 3 2 1 0; 0 - - - - -; - - - - - 0; 0>1:0 1>2:0 2>3:0 3>4:0 4>5:0; -")
	makes(t, "any | . | w | a | a", "-1 -1 4 0 0; 0 0 0 0 0; 0 0 0 0 0; ; -")
	f, at, e := syn.Parse("class z = 'a';class any1 = 'z';class n2 = z;class q = z;class c4 = z;class c5 = z;class c6 = z;class c7 = z;class c8 = z;class c9 = z;class c10 = z;class c11 = z;line 1 : c11 z q any any1 / n2 c10;")
	if e != api.OK {
		t.Fatal(at, e)
	}
	if got := made(t, f.Rules[0].Left, f).Sets; !slices.Equal(got, []int{11, 0, 3, -1, 1}) {
		t.Errorf("P701: Sets: %v", got)
	}
	if got := made(t, f.Rules[0].Right, f).Sets; !slices.Equal(got, []int{2, 10}) {
		t.Errorf("P701: Sets of a Right: %v", got)
	}
	// Made for the file, not for one rule of it, nor by any other file.
	g := api.File{Defs: slices.Clone(f.Defs)}
	slices.Reverse(g.Defs)
	if got := made(t, f.Rules[0].Left, g).Sets; !slices.Equal(got, []int{0, 11, 8, -1, 10}) {
		t.Errorf("P701: Sets of another file: %v", got)
	}
}

// Repeats: each position made anew; a match of k times takes the first k (P701).
func TestMakeOfRepeats(t *testing.T) {
	makes(t, "a{0,0}", "; ; ; ; 0")
	makes(t, "b a{0,0} b", "1 1; 0 -; - 0; 0>1:0; -")
	makes(t, "a{0,1}", "0; 0; 0; ; 0")
	makes(t, "a{0,2}", "0 0; 0 -; 0 0; 0>1:0; 0")
	makes(t, "a{1,2}", "0 0; 0 -; 0 0; 0>1:0; -")
	makes(t, "a{2,2}", "0 0; 0 -; - 0; 0>1:0; -")
	makes(t, "a{2,4}", "0 0 0 0; 0 - - -; - 0 0 0; 0>1:0 1>2:0 2>3:0; -")
	makes(t, "(a b){1,2}", "0 1 0 1; 0 - - -; - 0 - 0; 0>1:0 1>2:0 2>3:0; -")
	makes(t, "(a | b){2,2}", "0 1 0 1; 0 0 - -; - - 0 0; 0>2:0 0>3:0 1>2:0 1>3:0; -")
	makes(t, "b a{0,2} b", "1 0 0 1; 0 - - -; - - - 0; 0>1:0 0>3:0 1>2:0 1>3:0 2>3:0; -")
	makes(t, "(a*){2,2}", "0 0; 0 0; 0 0; 0>0:0 0>1:0 1>1:0; 0")
	makes(t, "(a{2,2})*", "0 0; 0 -; - 0; 0>1:0 1>0:0; 0")
	makes(t, "a{1,2}{1,2}", "0 0 0 0; 0 - - -; 0 0 0 0; 0>1:0 0>2:0 1>2:0 2>3:0; -")
	makes(t, "a{0,0}{3,5}", "; ; ; ; 0")
	makes(t, "(){3,5}", "; ; ; ; 0")
	makes(t, "(a b{0,2}){0,2}", "0 1 1 0 1 1; 0 - - - - -; 0 0 0 0 0 0; 0>1:0 0>3:0 1>2:0 1>3:0 2>3:0 3>4:0 4>5:0; 0")
}

// Repeats of what may match nothing: fewer rounds with a scalar than Lo pay for those without; more than Lo do not (P701).
func TestMakeOfRepeatsOfNothing(t *testing.T) {
	makes(t, "(a | ){2,2}", "0 0; 0 0; 0 0; 0>1:0; 0")
	makes(t, "(a | () @ 3){0,3}", "0 0 0; 0 3 6; 0 0 0; 0>1:0 0>2:3 1>2:0; 0")
	makes(t, "(a | () @ 3){1,3}", "0 0 0; 0 3 6; 0 0 0; 0>1:0 0>2:3 1>2:0; 3")
	makes(t, "(a | () @ 3){2,3}", "0 0 0; 0 3 6; 3 0 0; 0>1:0 0>2:3 1>2:0; 6")
	makes(t, "(a | () @ 3){3,3}", "0 0 0; 0 3 6; 6 3 0; 0>1:0 0>2:3 1>2:0; 9")
	makes(t, "(a | () @ 3){2,4}", "0 0 0 0; 0 3 6 9; 3 0 0 0; 0>1:0 0>2:3 0>3:6 1>2:0 1>3:3 2>3:0; 6")
	makes(t, "(a @ 1 | () @ 3){2,2}", "0 0; 1 4; 3 0; 0>1:1; 6")
	makes(t, "(() @ 4){2,5}", "; ; ; ; 8")
	makes(t, "(() @ 4){0,5}", "; ; ; ; 0")
	makes(t, "(() @ 4){0,0}", "; ; ; ; 0")
	makes(t, "(() @ 4){5,5} a (() @ 7){1,2}", "0; 20; 7; ; -")
	makes(t, "(() @ 2){2,2}{3,3}", "; ; ; ; 12")
	makes(t, "b (a | () @ 3){2,2} b", "1 0 0 1; 0 - - -; - - - 0; 0>1:0 0>2:3 0>3:6 1>2:0 1>3:3 2>3:0; -")
	makes(t, "((a | () @ 3) (b | () @ 5)){2,2}", "0 1 0 1; 0 3 8 11; 13 8 5 0; 0>1:0 0>2:5 0>3:8 1>2:0 1>3:3 2>3:0; 16")
	makes(t, "((a | () @ 1){2,2} | () @ 9){2,2}", "0 0 0 0; 0 1 2 3; 3 2 1 0; 0>1:0 0>2:1 0>3:2 1>2:0 1>3:1 2>3:0; 4")
}

// A weight counts where its match begins: ahead of the first position, between two, of nothing (P701).
func TestMakeOfWeights(t *testing.T) {
	makes(t, "a @ 5", "0; 5; 0; ; -")
	makes(t, "a @ 1000000", "0; 1000000; 0; ; -")
	makes(t, "() @ 5", "; ; ; ; 5")
	makes(t, "a @ 5 @ 6", "0; 11; 0; ; -")
	makes(t, "() @ 5 @ 6 @ 0", "; ; ; ; 11")
	makes(t, "a b @ 5", "0 1; 0 -; - 0; 0>1:5; -")
	makes(t, "(a b) @ 5", "0 1; 5 -; - 0; 0>1:0; -")
	makes(t, "(a @ 2 b @ 3) @ 5", "0 1; 7 -; - 0; 0>1:3; -")
	makes(t, "(a | b) @ 5", "0 1; 5 5; 0 0; ; -")
	makes(t, "a @ 2 | b @ 3", "0 1; 2 3; 0 0; ; -")
	makes(t, "a (() @ 3) b", "0 1; 0 -; - 0; 0>1:3; -")
	makes(t, "(() @ 3) a (() @ 4)", "0; 3; 4; ; -")
	makes(t, "(() @ 3) (() @ 4)", "; ; ; ; 7")
	makes(t, "(a | ) @ 5 b", "0 1; 5 5; - 0; 0>1:0; -")
	makes(t, "b (a | ) @ 5", "1 0; 0 -; 5 0; 0>1:5; -")
	makes(t, "(a | () @ 3) (b | () @ 4)", "0 1; 0 3; 4 0; 0>1:0; 7")
	makes(t, "(a | () @ 3) @ 2 b", "0 1; 2 5; - 0; 0>1:0; -")
	makes(t, "a (b | () @ 3) a", "0 1 0; 0 - -; - - 0; 0>1:0 0>2:3 1>2:0; -")
	makes(t, "() | () @ 2 | a", "0; 0; 0; ; 0")
	makes(t, "() @ 2 | () @ 1", "; ; ; ; 1")
	makes(t, "(a b){2,2} @ 5", "0 1 0 1; 5 - - -; - - - 0; 0>1:0 1>2:0 2>3:0; -")
	makes(t, "(a b @ 1 @ 1){1,2}", "0 1 0 1; 0 - - -; - 0 - 0; 0>1:2 1>2:0 2>3:2; -")
	makes(t, "((a b) @ 1){2,3}", "0 1 0 1 0 1; 1 - - - - -; - - - 0 - 0; 0>1:0 1>2:1 2>3:0 3>4:1 4>5:0; -")
}

// A star's round costs what its next part's beginning does; of two ways to go on the least (P701).
func TestMakeOfRounds(t *testing.T) {
	makes(t, "(a @ 5)*", "0; 5; 0; 0>0:5; 0")
	makes(t, "a* @ 5", "0; 5; 0; 0>0:0; 5")
	makes(t, "(a* @ 2)*", "0; 2; 0; 0>0:0; 0")
	makes(t, "((a @ 2)* @ 3)*", "0; 5; 0; 0>0:2; 0")
	makes(t, "((a @ 2)* @ 3)* @ 1", "0; 6; 0; 0>0:2; 1")
	makes(t, "a**", "0; 0; 0; 0>0:0; 0")
	makes(t, "(a @ 2)**", "0; 2; 0; 0>0:2; 0")
	makes(t, "(a @ 2 | a @ 1)*", "0 0; 2 1; 0 0; 0>0:2 0>1:1 1>0:2 1>1:1; 0")
	makes(t, "(a b @ 2)*", "0 1; 0 -; - 0; 0>1:2 1>0:0; 0")
	makes(t, "((a b) @ 2)*", "0 1; 2 -; - 0; 0>1:0 1>0:2; 0")
	makes(t, "(a | )*", "0; 0; 0; 0>0:0; 0")
	makes(t, "(a | () @ 3)*", "0; 0; 0; 0>0:0; 0")
	makes(t, "(() @ 9)*", "; ; ; ; 0")
	makes(t, "((a | () @ 3) b @ 2)*", "0 1; 0 5; - 0; 0>1:2 1>0:0 1>1:5; 0")
	makes(t, "(a (b | () @ 3))*", "0 1; 0 -; 3 0; 0>0:3 0>1:0 1>0:0; 0")
	makes(t, "((a | () @ 1) (b | () @ 10) @ 100)*", "0 1; 0 101; 110 0; 0>0:110 0>1:100 1>0:0 1>1:101; 0")
	makes(t, "((a | () @ 1) (b | () @ 10))* b", "0 1 1; 0 1 0; - - 0; 0>0:10 0>1:0 0>2:10 1>0:0 1>1:1 1>2:0; -")
	makes(t, "((a b){1,2} @ 4)*", "0 1 0 1; 4 - - -; - 0 - 0; 0>1:0 1>0:4 1>2:0 2>3:0 3>0:4; 0")
	makes(t, "(a* b*)*", "0 1; 0 0; 0 0; 0>0:0 0>1:0 1>0:0 1>1:0; 0")
	makes(t, "((a* @ 1) (b* @ 2))*", "0 1; 1 3; 2 0; 0>0:0 0>1:2 1>0:1 1>1:0; 0")
	makes(t, "((a* @ 1) (b @ 5)*)*", "0 1; 1 6; 0 0; 0>0:0 0>1:5 1>0:1 1>1:5; 0")
}

// 120 positions may be, 121 not (P701); beside false nothing stands (P4).
func TestMostPositions(t *testing.T) {
	fits := func(pattern string) {
		t.Helper()
		x, f := left(t, pattern)
		if s := made(t, x, f); len(s.Sets) != 120 || len(s.First) != 120 || len(s.Ends) != 120 {
			t.Errorf("P701: %.100s: %d, %d, %d", pattern, len(s.Sets), len(s.First), len(s.Ends))
		}
	}
	large := func(pattern string) {
		t.Helper()
		x, f := left(t, pattern)
		if s, is := Make(x, f); is || said(s) != "; ; ; ; 0" {
			t.Errorf("P701: %.100s: %s", pattern, said(s))
		}
	}
	for _, b := range []struct{ ahead, behind string }{{"", ""}, {"(", ")*"}, {"(", ") @ 7"}, {"(", "){1,1}"}, {"(", "){0,1}"}, {"() | ", ""}, {"() ", "()"}, {"(", "| a{0,0}){1,1}"}} {
		fits(b.ahead + strings.Repeat("a ", 120) + b.behind)
		large(b.ahead + strings.Repeat("a ", 121) + b.behind)
		fits(b.ahead + strings.Repeat(".|", 119) + "b" + b.behind)
		large(b.ahead + strings.Repeat(".|", 120) + "b" + b.behind)
		fits(b.ahead + "a{12,12}{0,10}" + b.behind)
		large(b.ahead + "(a{12,12}{0,10} a)" + b.behind)
		large(b.ahead + "(a | a{12,12}{0,10})" + b.behind)
		large(b.ahead + "(a{11,11}{11,11})" + b.behind)
		large(b.ahead + "(a{0,12}{0,12}{0,12})" + b.behind)
	}
	large(strings.Repeat("a", 1) + strings.Repeat("{12,12}", 500))
	fits("a{12,12}{12,12}{0,0} " + strings.Repeat("a ", 120))
	x, f := left(t, strings.Repeat("a ", 120))
	s := made(t, x, f)
	if len(s.Arcs) != 119 || s.Arcs[118] != (api.Arc{From: 118, To: 119}) || s.First[0] != 0 || s.Ends[119] != 0 {
		t.Errorf("P701: of 120: %s", said(s))
	}
	x, f = left(t, "("+strings.Repeat("a|", 119)+"a @ 2)*")
	s = made(t, x, f)
	if len(s.Arcs) != 120*120 || s.Arcs[120*120-1] != (api.Arc{From: 119, To: 119, W: 2}) || s.Arcs[119*120] != (api.Arc{From: 119}) {
		t.Errorf("P701: of 120 in a star: %d", len(s.Arcs))
	}
}

// What costs Inf, or more, is forbidden: no First, no Ends, no Arc, None Inf (W3, P701).
func TestMakeOfWhatIsForbidden(t *testing.T) {
	x, f := left(t, "a")
	most := cost(none(), 1)
	for want := 1; ; want *= 12 {
		if got := made(t, most, f).None; got != min(want, api.Inf) {
			t.Fatalf("P701: None: %d, not %d", got, want)
		}
		if want >= api.Inf/12 {
			break
		}
		most = repeat(most, 12, 12)
	}
	// Half of what is forbidden, and all of it.
	half := none()
	for n, deep := api.Inf/2, 0; n > 0; n, deep = n/12, deep+1 {
		for range n % 12 {
			half = cat(half, nested(cost(none(), 1), 12, 12, deep))
		}
	}
	all := cat(half, half)
	for _, c := range []struct {
		x    api.Rex
		want string
	}{
		{half, "; ; ; ; " + fmt.Sprint(api.Inf/2)},
		{all, "; ; ; ; -"},
		{repeat(half, 0, 12), "; ; ; ; 0"},
		{repeat(half, 1, 12), "; ; ; ; " + fmt.Sprint(api.Inf/2)},
		{repeat(half, 2, 12), "; ; ; ; -"},
		{repeat(all, 12, 12), "; ; ; ; -"},
		{nested(all, 12, 12, 900), "; ; ; ; -"},
		{repeat(all, 0, 12), "; ; ; ; 0"},
		{cat(all, x), "0; -; 0; ; -"},
		{cat(x, all), "0; 0; -; ; -"},
		{cat(cat(x, all), x), "0 0; 0 -; - 0; ; -"},
		{cat(cat(x, half), x), "0 0; 0 -; - 0; 0>1:" + fmt.Sprint(api.Inf/2) + "; -"},
		{cat(cat(x, half), cat(half, x)), "0 0; 0 -; - 0; ; -"},
		{cat(cat(half, x), half), "0; " + fmt.Sprint(api.Inf/2) + "; " + fmt.Sprint(api.Inf/2) + "; ; -"},
		{many0(cat(cat(half, x), half)), "0; " + fmt.Sprint(api.Inf/2) + "; " + fmt.Sprint(api.Inf/2) + "; ; 0"},
		{alt(all, x), "0; 0; 0; ; -"},
		{repeat(alt(x, half), 2, 3), "0 0 0; 0 " + fmt.Sprint(api.Inf/2) + " -; " + fmt.Sprint(api.Inf/2) + " 0 0; 0>1:0 0>2:" + fmt.Sprint(api.Inf/2) + " 1>2:0; -"},
	} {
		if got := said(made(t, c.x, f)); got != c.want {
			t.Errorf("P701: %s, not %s", got, c.want)
		}
	}
	if got := Cost(made(t, all, f), f, nil, 0, 0); got != api.Inf {
		t.Errorf("P702: Cost of what is forbidden: %d", got)
	}
}

// Patterns of many parts, deep ones, repeats of nothing within repeats: each call ends soon (P1).
func TestMakeOfGreatPatterns(t *testing.T) {
	f := api.File{}
	if got := made(t, nested(cost(none(), 1), 12, 12, 999), f).None; got != api.Inf {
		t.Errorf("P701: None of nothing 12^999 times: %d", got)
	}
	if got := made(t, nested(cat(cost(none(), 3), repeat(dot(), 0, 0)), 1, 12, 900), f).None; got != 3 {
		t.Errorf("P701: None of nothing: %d", got)
	}
	x := none()
	for range 120 {
		x = alt(x, dot())
	}
	for range 400 {
		x = repeat(many0(cost(x, 1)), 1, 1)
	}
	if s := made(t, x, f); s.First[7] != 400 || s.Arcs[120*5+7] != (api.Arc{From: 5, To: 7, W: 1}) || s.None != 0 {
		t.Errorf("P701: of deep stars: %d, %v, %d", s.First[7], s.Arcs[120*5+7], s.None)
	}
	y := alt(dot(), nested(cost(none(), 1), 12, 12, 900))
	if s := made(t, repeat(repeat(y, 12, 12), 10, 10), f); len(s.Sets) != 120 || s.First[119] != api.Inf || len(s.Arcs) != 119 {
		t.Errorf("P701: of repeats of repeats of nothing: %s", said(s))
	}
}
