package comp

import (
	"math"
	"slices"
	"strings"
	"testing"

	"hyphen/api"
	"hyphen/table"
	"hyphen/trop"
)

// Known tables: of no rules, of a Left, of a Right, of both (P1401).
func TestKnownTables(t *testing.T) {
	none := trop.None()
	five, two := api.Vec{5, api.Inf, api.Inf}, api.Vec{api.Inf, 2, api.Inf}
	one, same := api.Back{Next: [][]int{{0}}, Out: []int{0}}, [][]int{{0, 1}, {0, 1}}
	cuts, letters := []int{0, 97, 98}, []int{0, 1, 0}
	for src, want := range map[string]api.Table{
		"":          {Cuts: []int{0}, Letters: []int{0}, B: one, F: api.Fwd{Next: [][]int{{0}}, Emit: [][]api.Vec{{none}}}},
		"line 5:/;": {Cuts: []int{0}, Letters: []int{0}, B: one, F: api.Fwd{Next: [][]int{{0}}, Emit: [][]api.Vec{{five}}}},
		"class a='a';line 5:a/;": {Cuts: cuts, Letters: letters,
			B: api.Back{Next: [][]int{{0, 0}}, Out: []int{0}}, F: api.Fwd{Next: same, Emit: [][]api.Vec{{none}, {five}}}},
		"class a='a';hyphen 2:/a;": {Cuts: cuts, Letters: letters,
			B: api.Back{Next: same, Out: []int{0, 1}}, F: api.Fwd{Next: [][]int{{0, 0}}, Emit: [][]api.Vec{{none, two}}}},
		"class a='a';hyphen 2:a/a;line 5:any/;": {Cuts: cuts, Letters: letters,
			B: api.Back{Next: same, Out: []int{0, 1}},
			F: api.Fwd{Next: [][]int{{1, 2}, {1, 2}, {1, 2}}, Emit: [][]api.Vec{{none, none}, {five, five}, {five, {5, 2, api.Inf}}}}},
	} {
		if got := ok(t, src, most); tell(got) != tell(want) {
			t.Errorf("P1401: %s: %v, not %v", src, got, want)
		}
	}
	if got := ok(t, "", 1); len(got.Cuts) != 1 || len(got.B.Next) != 1 || len(got.F.Next) != 1 {
		t.Errorf("P1401: of no text, budget 1: %v", got)
	}
}

// States that are alike are made one, and Outs that say the same are (P1401, T3).
func TestFewStates(t *testing.T) {
	for src, want := range map[string]string{
		"line 1 : a a* / a;":      "line 1 : a / a ;",
		"line 1 : . . . a / ;":    "line 1 : .{3,3} a{1,1} / ;",
		"line 1 : / a a* | a;":    "line 1 : / a;",
		"line 1 : / a . .* | a;":  "line 1 : / a;",
		"hyphen 3 : .* a / b b*;": "hyphen 3 : a / b;",
	} {
		got, x := ok(t, defs+src, most), ok(t, defs+want, most)
		if tell(got) != tell(x) {
			t.Errorf("T3: %s: %v; %s: %v", src, got, want, x)
		}
	}
	if ahead, behind := sizes(t, defs+"line 1 : / a . .* | a;"); ahead < 3 || behind != 1 {
		t.Errorf("P1401: only %d and %d states are there to be made fewer", ahead, behind)
	}
}

// Faults of reading, with their places (P1401).
func TestFaultsOfParse(t *testing.T) {
	for src, want := range map[string]Fault{
		"?":                                   {E: api.Syntax},
		"line 5 : / ":                         {E: api.Syntax, At: 11},
		"  line 5 : x / ;":                    {E: api.NoName, At: 11},
		"class a = 'a'; class a = 'b';":       {E: api.Twice, At: 21},
		"line 5 : / any @ 2 ;":                {E: api.Weighted, At: 15},
		"line 1000001 : / ;":                  {E: api.Large, At: 5},
		strings.Repeat(" ", 4001):             {E: api.Large},
		strings.Repeat(" ", 4000) + "?":       {E: api.Large},
		strings.Repeat(" ", 3999) + "?":       {E: api.Syntax, At: 3999},
		"line 5 : any{12,12}{12,12} / ; \x00": {E: api.Syntax, At: 31}, // told ahead of what is wrong with a Rule
		"class o='a';line 0:(o@3)*/;\xff":     {E: api.Syntax, At: 27},
	} {
		for _, budget := range []int{most, 1, 0, -1} {
			failed(t, src, budget, want)
		}
	}
}

// Rules of too many positions, in a Left, in a Right: the first such Rule, ahead of all rounds (P1401).
func TestLargeRules(t *testing.T) {
	many, enough := "any{12,12}{11,11}", "any{12,12}{10,10}" // 132 and 120
	for src, want := range map[string]int{
		"line 0 : " + many + " / ;":                                          0,
		"line 0 : / " + many + ";":                                           0,
		"line 0 : / ; line 0 : / ; line 0 : " + many + " / ;":                2,
		"line 0 : / ; line 0 : / " + many + "; line 0 : " + many + " / ;":    1,
		"line 0 : " + enough + " any / ;":                                    0,
		"line 0 : " + enough + " / any " + enough + ";":                      0,
		"line 0 : (any @ 1)* / ; line 0 : " + many + " / ;":                  1,
		"line 0 : (any @ 1)* / ; line 0 : / ; line 0 : / " + many + ";":      2,
		"line 0 : (any @ 1)* " + enough + " / ;":                             0,
		"line 0 : any{12,12}{12,12}{12,12}{12,12}{12,12}{12,12}{12,12} / ;":  0,
		"line 0 : / any{12,12}{12,12}{12,12}{12,12}{12,12}{12,12}{12,12} ;":  0,
		strings.Repeat("line 0:/;", 19) + "line 0:" + enough + " any/" + ";": 19,
	} {
		for _, budget := range []int{most, 1, 0, -1} {
			failed(t, src, budget, Fault{E: api.Large, Rule: want})
		}
	}
	ok(t, "line 0 : "+enough+" / ;", most)
	ok(t, "line 0 : / "+enough+";", most)
}

// Lefts with rounds that cost: the first such Rule, a round, and a way there; ahead of the budget (P1401).
func TestRounds(t *testing.T) {
	for src, want := range map[string]Fault{
		"line 0 : (a @ 3)* / ;":                                      {Way: []int{0}, Round: []int{0}},
		"line 0 : / ; line 0 : b / a; line 0 : a (b @ 3)* / ;":       {Rule: 2, Way: []int{0, 1}, Round: []int{1}},
		"line 0 : / ; line 0 : (a @ 1)* / ; line 0 : (a b @ 2)* / ;": {Rule: 1, Way: []int{0}, Round: []int{0}},
		// Trimmed: what has no letter is not counted.
		"line 0 : (o | (a @ 1)*) / ;": {Way: []int{0}, Round: []int{0}},
	} {
		want.E = api.NotTwins
		for _, budget := range []int{most, 1, 0, -1} {
			failed(t, defs+src, budget, want)
		}
	}
	for _, src := range []string{
		"line 0 : (o @ 3)* / ;", "line 0 : (a @ 0)* / ;", "line 0 : a* @ 3 / ;", "line 0 : (a (o @ 1) | b)* / ;",
		"line 0 : (a | b)* @ 3 a / ;", "line 0 : a o (b @ 3)* / ;", "line 0 : (b @ 3)* o / ;", "line 0 : (a @ 3){0,12} / ;",
	} {
		ok(t, defs+src, most)
	}
}

// No more than budget states, of the one machine, and of the other, ahead of making them fewer (P1401).
func TestBudget(t *testing.T) {
	for _, src := range []string{"", "line 0 : / ;", "line 0 : a . . / ;", "line 0 : / . . a;", "line 0 : / a . .* | a;", "line 0 : a . . . / . b ;", "line 0 : a . / . . . b;", "line 0 : / o . . a ;", "line 0 : a . . o / ;"} {
		src = defs + src
		ahead, behind := sizes(t, src)
		least := max(ahead, behind)
		want := tell(ok(t, src, least))
		for _, budget := range []int{least + 1, 100000, 100001, math.MaxInt} {
			if got := tell(ok(t, src, budget)); got != want {
				t.Errorf("P1401: %s, budget %d: %s, not %s", src, budget, got, want)
			}
		}
		for _, budget := range []int{least - 1, min(ahead, behind) - 1, 0, -1, math.MinInt} {
			failed(t, src, budget, Fault{E: api.Budget})
		}
	}
	// 2^17 states, whatever the budget: of a Left, of a Right.
	for _, src := range []string{"line 0 : a .{12,12} . . . . / ;", "line 0 : / .{12,12} . . . . a;"} {
		failed(t, defs+src, math.MaxInt, Fault{E: api.Budget})
	}
}

// Outs are numbered as they first come, and each number keeps what it stands for (P1401).
func TestOutsAnew(t *testing.T) {
	for _, x := range []struct{ outs, numbered, labels []int }{
		{nil, nil, nil},
		{[]int{0}, []int{0}, []int{0}},
		{[]int{0, 1, 2, 1}, []int{0, 1, 2, 1}, []int{0, 1, 2}},
		{[]int{3, 1, 3, 0, 1, 7}, []int{0, 1, 0, 2, 1, 3}, []int{3, 1, 0, 7}},
	} {
		was := slices.Clone(x.outs)
		numbered, labels := anew(x.outs)
		if !slices.Equal(numbered, x.numbered) || !slices.Equal(labels, x.labels) || !slices.Equal(x.outs, was) {
			t.Errorf("P1401: %v is numbered %v, for %v", was, numbered, labels)
		}
	}
}

// As many Defs and Rules as may be (P1401).
func TestFullFiles(t *testing.T) {
	var w strings.Builder
	for i := range api.MaxSets {
		w.WriteString("class c" + string(rune('a'+i)) + " = '" + string(rune('a'+i)) + "'..'z';\n")
	}
	for i := range api.MaxRules {
		w.WriteString([]string{"line", "hyphen", "emergency"}[i%3] + " " + strings.Repeat("1", 1+i%6) + " : c" + string(rune('a'+i%12)) + " any / c" + string(rune('a'+i*5%12)) + ";\n")
	}
	x := ok(t, w.String(), most)
	says(t, w.String(), x, [][]int{nil, {'a'}, {'z'}, {'c', 'd', 'e', 'z', '-', 'k', 'l', 'a', 'b', 'm'}, {'l', 'k', 'j', 'i', 'h', 'g', 'f', 'e', 'd', 'c', 'b', 'a'}, slices.Repeat([]int{'l', 'a'}, 9)})
	if !table.Right(x) || len(x.Cuts) != 14 {
		t.Errorf("P1401: of %s: %v", w.String(), x.Cuts)
	}
}
