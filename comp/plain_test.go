package comp

import (
	"fmt"
	"slices"
	"strings"
	"testing"

	"hyphen/api"
	"hyphen/back"
	"hyphen/det"
	"hyphen/mini"
	"hyphen/part"
	"hyphen/side"
	"hyphen/syn"
	"hyphen/twin"
)

// plainly tells, sentence by sentence of P1401, what Compile is to tell.
func plainly(src string, budget int) (api.Table, Fault) {
	f, at, e := syn.Parse(src)
	if e != api.OK {
		return api.Table{}, Fault{E: e, At: at}
	}
	for i, r := range f.Rules {
		if side.Size(r.Left) > api.MaxPos || side.Size(r.Right) > api.MaxPos {
			return api.Table{}, Fault{E: api.Large, Rule: i}
		}
	}
	var lefts, rights []api.Side
	for _, r := range f.Rules {
		lefts, rights = append(lefts, trimmed(f, r.Left)), append(rights, trimmed(f, r.Right))
	}
	if i := twins(f); i >= 0 {
		round, _ := twin.Round(lefts[i])
		way, _ := twin.Way(lefts[i], round[0])
		return api.Table{}, Fault{E: api.NotTwins, Rule: i, Way: way, Round: round}
	}
	sets := syn.Sets(f)
	cuts, letters := part.Cuts(sets)
	in, count := part.In(sets, cuts, letters), part.Count(letters)
	ahead, held, e := back.Make(rights, in, count, budget)
	if e != api.OK {
		return api.Table{}, Fault{E: e}
	}
	behind, e := det.Make(f.Rules, lefts, in, count, held, budget)
	if e != api.OK {
		return api.Table{}, Fault{E: e}
	}
	return fitted(cuts, letters, ahead, behind), Fault{}
}

// fitted tells the table of two machines, with their labels numbered as B's states first say them.
func fitted(cuts, letters []int, ahead api.Back, behind api.Fwd) api.Table {
	b, _ := mini.Back(ahead)
	var met []int
	for state, out := range b.Out {
		if !slices.Contains(met, out) {
			met = append(met, out)
		}
		b.Out[state] = slices.Index(met, out)
	}
	f, _ := mini.Fwd(mini.Pick(behind, met))
	return api.Table{Cuts: cuts, Letters: letters, B: b, F: f}
}

// held holds what Compile tells against the words.
func held(t *testing.T, src string, budget int) Fault {
	t.Helper()
	x, fault := plainly(src, budget)
	y, got := Compile(src, budget)
	if tell(y) != tell(x) || fmt.Sprint(got) != fmt.Sprint(fault) {
		t.Fatalf("P1401: of %s, budget %d: %v, %v, not %v, %v", src, budget, y, got, x, fault)
	}
	return fault
}

// Thrown rules, some too large, some with rounds that cost, at any budget: number by number what the words tell (P1401).
func TestByTheWords(t *testing.T) {
	d := &dice{83}
	met := map[api.Errno]int{}
	for range 3000 {
		src := d.rules(3)
		if d.of(4) == 0 {
			src += pick(d, "line 3 : a{11,11}{11,11} / b;", "line 3 : b / (o | b){12,12}{5,6};", "hyphen 1 : (a b @ 2)* / ;")
			src += d.rules(2)[len(defs):]
		}
		met[held(t, src, pick(d, 0, 1, 2, 3, 5, 8, 13, most)).E]++
	}
	for _, e := range []api.Errno{api.OK, api.Large, api.NotTwins, api.Budget} {
		if met[e] < 100 {
			t.Errorf("%v was met only %d times", e, met[e])
		}
	}
}

// Each kind of error of syn.Parse, told where it is; ahead of all that is wrong with Rules (P1401).
func TestKindsOfFaultsOfParse(t *testing.T) {
	// A Rule that is too large and has a round that costs: laid ahead of each fault in a Rule.
	worse := "line 0 : (a @ 1)* / any{12,12}{12,12};"
	for _, x := range []struct {
		ahead, src string // the fault is at src's sign behind ahead
		e          api.Errno
	}{
		{"class ", "any = 'a';", api.Syntax},
		{"class x = 'b'..", "'a';", api.Syntax},
		{"line 0 : a{3,", "2} / ;", api.Syntax},
		{"line 0 : / ;", "class x = any;", api.Syntax},
		{"line 0 : / ; ", "\xc3\xa9", api.Syntax},
		{"line 0 : a {2,2} / a {2,2}", "", api.Syntax},
		{"class ", "abcdefghijklm = any;", api.Large},
		{"line ", "1000001 : / ;", api.Large},
		{"class x = ", "U+110000;", api.Large},
		{"class c1=any;class c2=any;class c3=any;class c4=any;class c5=any;class c6=any;class c7=any;class c8=any;", "class x = any;", api.Large},
		{strings.Repeat("line 0:/;", api.MaxRules-1), "line 0:/;", api.Large}, // worse is one more
		{"line 0 : " + strings.Repeat("(", 12), "(a" + strings.Repeat(")", 13) + "/;", api.Large},
		{"class x = " + strings.Repeat("!", 12), "!any;", api.Large},
		{"line 0 : a{2,", "13} / ;", api.Large},
		{"class ", "v = any;", api.Twice},
		{"class x = ", "x;", api.NoName},
		{"line 0 : a / b ", "x ;", api.NoName},
		{"line 0 : a @ 1 / b ", "@ 1;", api.Weighted},
	} {
		want := Fault{E: x.e, At: len(defs + x.ahead)}
		if strings.HasPrefix(x.ahead, "line") {
			want.At += len(worse)
			x.ahead = worse + x.ahead
		}
		for _, budget := range []int{most, 0} {
			failed(t, defs+x.ahead+x.src, budget, want)
		}
	}
}

// Ways and rounds of several positions, of trimmed Lefts, of the first of several such Rules (P1401, T2).
func TestLongRounds(t *testing.T) {
	for src, want := range map[string]struct{ rule, way, round int }{
		"line 0 : (a b v @ 2)* / ;":                                {0, 0, 3},
		"line 0 : a b v (b @ 1)* / ;":                              {0, 4, 1},
		"line 0 : a o | b (b | o) (b @ 1)* / ;":                    {0, 3, 1},
		"line 0 : (a @ 0)* / ; line 0 : a b (a b @ 2)* a / ;":      {1, 0, 2},
		"line 0 : (o a @ 7)* / ; line 9 : b v (. a)* @ 3 (a@1)*/;": {1, 0, 1},
	} {
		f, _, _ := syn.Parse(defs + src)
		_, fault := Compile(defs+src, 0)
		if fault.E != api.NotTwins || fault.Rule != want.rule || len(fault.Round) != want.round || want.way > 0 && len(fault.Way) != want.way {
			t.Errorf("P1401: of %s: %v, not %v", src, fault, want)
			continue
		}
		shown(t, defs+src, f, fault)
	}
}
