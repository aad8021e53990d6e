package table

import (
	"fmt"
	"slices"
	"strings"
	"testing"

	"hyphen/api"
	"hyphen/back"
	"hyphen/det"
	"hyphen/mean"
	"hyphen/mini"
	"hyphen/part"
	"hyphen/side"
	"hyphen/syn"
)

// defs is the sets that patterns of these tests name: o has nothing.
const defs = "class a = 'a';class b = 'b';class v = 'a' | 'e' | U+10FFFF;class o = any - any;"

// most is a budget that no machine of these tests needs.
const most = 50000

// made makes the table of rules, by chapters 4 to 11.
func made(t *testing.T, rules string) (api.File, api.Table) {
	t.Helper()
	f, at, e := syn.Parse(rules)
	if e != api.OK {
		t.Fatalf("%s: %d: %v", rules, at, e)
	}
	sets := syn.Sets(f)
	var x api.Table
	x.Cuts, x.Letters = part.Cuts(sets)
	in, count := part.In(sets, x.Cuts, x.Letters), part.Count(x.Letters)
	var lefts, rights []api.Side
	for _, r := range f.Rules {
		left, _ := side.Make(r.Left, f)
		right, _ := side.Make(r.Right, f)
		lefts, rights = append(lefts, side.Trim(left, in)), append(rights, side.Trim(right, in))
	}
	b, held, e := back.Make(rights, in, count, most)
	if e != api.OK {
		t.Fatalf("%s: %v", rules, e)
	}
	g, e := det.Make(f.Rules, lefts, in, count, held, most)
	if e != api.OK {
		t.Fatalf("%s: %v", rules, e)
	}
	x.B, _ = mini.Back(b)
	x.F, _ = mini.Fwd(g)
	return f, x
}

// texts tells all of up to so many scalars, of some that are of each kind.
func texts(long int) [][]int {
	l := [][]int{nil}
	for i := 0; i < len(l); i++ {
		for _, n := range []int{'a', 'b', 'e', 0, api.Last} {
			if len(l[i]) < long {
				l = append(l, append(slices.Clone(l[i]), n))
			}
		}
	}
	return l
}

// run tells what breaking text costs, place by place, by a table.
func run(x api.Table, text []int) []api.Vec {
	var l []int
	for _, n := range text {
		l = append(l, part.Letter(x.Cuts, x.Letters, n))
	}
	return det.Run(x.F, l, back.Run(x.B, l))
}

// What rules are made to is a table; it is loaded as it was saved; what is loaded says what the rules say (P1203, T1, T4).
func TestLoadedTablesRun(t *testing.T) {
	for _, rules := range []string{
		"line 0 : / ",
		"line 0 : a / ",
		"line 0 : / a",
		"line 0 : o / ; hyphen 3 : a / o",
		"line 1000000 : v (a | b)* / b* v",
		"line 1 : a / b ; hyphen 2 : b / . a ; emergency 9 : . / .",
		"hyphen 5 : (a @ 2 | . @ 4) b* / a ; line 0 : . . / v v ; emergency 7 : v{1,3} / ",
		"line 2 : / a a* b ; line 3 : / . b ; line 4 : b / v ; hyphen 0 : a . . / . . a",
	} {
		f, x := made(t, defs+rules+" ;")
		if !Right(x) {
			t.Fatalf("P1201: of %s: %v is not right", rules, x)
		}
		there(t, x)
		y, _ := Load(Save(x))
		for _, text := range texts(4) {
			if got, want := run(y, text), mean.Breaks(f, text); !slices.Equal(got, want) {
				t.Fatalf("T4: of %s, over %v: %v, not %v", rules, text, got, want)
			}
		}
	}
}

// No rules, no sets: one state each (P1202, P1203).
func TestTableOfNoRules(t *testing.T) {
	x := api.Table{}
	x.Cuts, x.Letters = part.Cuts(nil)
	b, held, _ := back.Make(nil, nil, 1, most)
	g, _ := det.Make(nil, nil, nil, 1, held, most)
	x.B, x.F = b, g
	if !Right(x) || len(x.B.Next) != 1 || len(x.F.Next) != 1 {
		t.Errorf("P1201: Right of %v: false", x)
	}
	there(t, x)
}

// Two files that say the same have the same bytes (T3).
func TestTheSameBytes(t *testing.T) {
	for _, l := range [][]string{
		{"line 2 : a a* / ", "line 2 : a* a / ", "line 2 : .* a | a / ", "line 2 : a{1,1} / "},
		{"hyphen 0 : (a | b)* v / b", "hyphen 0 : (a* b*)* v / b | b", "hyphen 0 : (b | a)* v / b{1,1}"},
		{"line 1 : (a @ 2 | b) .* / a", "line 1 : (a | b) @ 2 .* | b .* / a"},
	} {
		_, x := made(t, defs+l[0]+";")
		want := Save(x)
		if len(want) == 0 {
			t.Fatalf("P1202: %s is not saved", l[0])
		}
		for _, rules := range l[1:] {
			if _, y := made(t, defs+rules+";"); !slices.Equal(Save(y), want) {
				t.Errorf("T3: %s and %s: %v, %v", l[0], rules, x, y)
			}
		}
	}
}

// Files that say other things have other bytes (P1203).
func TestOtherBytes(t *testing.T) {
	met := map[string]string{}
	for _, rules := range []string{"line 2 : a / ", "line 3 : a / ", "hyphen 2 : a / ", "emergency 2 : a / ", "line 2 : a a / ", "line 2 : . a / ", "line 2 : / a", "line 2 : / b", "line 2 : a / a", "line 2 : a @ 1 a / a"} {
		_, x := made(t, defs+rules+";")
		b := string(Save(x))
		if other, is := met[b]; is {
			t.Errorf("P1203: %s and %s have the same bytes", rules, other)
		}
		met[b] = rules
	}
}

// runs walks a table over letters by its lists alone: all that it asks for is there.
func runs(x api.Table, text []int) []api.Vec {
	outs, state := []int{x.B.Out[0]}, 0
	for _, letter := range slices.Backward(text) {
		state = x.B.Next[state][letter]
		outs = append(outs, x.B.Out[state])
	}
	state = 0
	vecs := []api.Vec{x.F.Emit[0][outs[len(text)]]}
	for at, letter := range text {
		state = x.F.Next[state][letter]
		vecs = append(vecs, x.F.Emit[state][outs[len(text)-1-at]])
	}
	return vecs
}

// Whatever is loaded may be run over any text, also where its bytes were turned (T4).
func TestWhateverIsLoadedRuns(t *testing.T) {
	d := &dice{71}
	ran := 0
	for range 10000 {
		l := told(d.table(3, 3))
		l[d.of(len(l))] = d.of(5)
		x, is := Load(sealed(bytesOf(l)))
		if !is {
			continue
		}
		ran++
		var text, letters []int
		for range d.of(20) {
			text = append(text, pick(d, 0, api.Last, d.of(api.Last), x.Cuts[d.of(len(x.Cuts))]))
			letters = append(letters, part.Letter(x.Cuts, x.Letters, text[len(text)-1]))
		}
		if got, want := run(x, text), runs(x, letters); !slices.Equal(got, want) {
			t.Fatalf("T4: %v over %v: %v, not %v", x, text, got, want)
		}
	}
	if ran < 1000 {
		t.Errorf("T4: only %d were loaded", ran)
	}
}

// Many rules at once, as large as they come (P1202, P1203).
func TestManyRules(t *testing.T) {
	var l []string
	for i := range 9 {
		l = append(l, fmt.Sprintf("%s %d : a .{%d,%d} / b .{0,%d} a", []string{"line", "hyphen", "emergency"}[i%3], i, i/2, i/2, i%3))
	}
	_, x := made(t, defs+strings.Join(append(l, ""), ";"))
	if len(x.F.Next) < 10 || len(x.B.Next) < 5 {
		t.Errorf("of %d and %d states", len(x.B.Next), len(x.F.Next))
	}
	there(t, x)
}
