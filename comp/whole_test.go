package comp

import (
	"fmt"
	"slices"
	"testing"

	"hyphen/api"
	"hyphen/mini"
	"hyphen/part"
	"hyphen/syn"
	"hyphen/table"
	"hyphen/trop"
	"hyphen/twin"
)

// Thrown rules: one table or one fault; a table says what they say, is right, is as small as can be, and is loaded as it was saved (P1401, P1402: T1 to T4).
func TestThrownRules(t *testing.T) {
	d := &dice{61}
	made, costly, l := 0, 0, texts(4)
	for range 1500 {
		src := d.rules(3)
		f, at, e := syn.Parse(src)
		if e != api.OK {
			t.Fatalf("%s: %d: %v", src, at, e)
		}
		x, fault := Compile(src, 2000)
		switch fault.E {
		case api.OK:
			made++
			if twins(f) >= 0 {
				t.Fatalf("T2: of %s: a table, though rounds cost", src)
			}
			says(t, src, x, l)
			fewest(t, src, x)
		case api.NotTwins:
			costly++
			shown(t, src, f, fault)
		case api.Budget:
			failed(t, src, 2000, Fault{E: api.Budget})
		default:
			t.Fatalf("P1401: of %s: %v", src, fault)
		}
	}
	if made < 700 || costly < 50 {
		t.Errorf("T2: %d tables, %d faults", made, costly)
	}
}

// fewest holds that x is a table, in as few states as can be, and comes back as it was saved (T3, T4).
func fewest(t *testing.T, src string, x api.Table) {
	t.Helper()
	b, _ := mini.Back(x.B)
	g, _ := mini.Fwd(x.F)
	if !table.Right(x) || fmt.Sprint(b) != fmt.Sprint(x.B) || fmt.Sprint(g) != fmt.Sprint(x.F) {
		t.Fatalf("T3: of %s: %v", src, x)
	}
	f, _, _ := syn.Parse(src)
	cuts, letters := part.Cuts(syn.Sets(f))
	if !slices.Equal(cuts, x.Cuts) || !slices.Equal(letters, x.Letters) {
		t.Fatalf("P1401: of %s: letters %v, %v", src, x.Cuts, x.Letters)
	}
	met := 0
	for _, out := range x.B.Out {
		if out > met {
			t.Fatalf("P1401: of %s: Outs %v", src, x.B.Out)
		}
		met = max(met, out+1)
	}
	y, is := table.Load(table.Save(x))
	if !is || tell(y) != tell(x) {
		t.Fatalf("T4: of %s: %v, then %v", src, x, y)
	}
}

// shown holds that a fault shows a round that costs, and a way there (P1401, T2).
func shown(t *testing.T, src string, f api.File, fault Fault) {
	t.Helper()
	if want := twins(f); fault.Rule != want || fault.At != 0 {
		t.Fatalf("P1401: of %s: %v, not Rule %d", src, fault, want)
	}
	s := trimmed(f, f.Rules[fault.Rule].Left)
	round, _ := twin.Round(s)
	way, _ := twin.Way(s, round[0])
	if cost, is := twin.Check(s, fault.Round); !is || cost <= 0 {
		t.Fatalf("T2: of %s: %v costs %d, %v", src, fault.Round, cost, is)
	}
	if !slices.Equal(fault.Round, round) || !slices.Equal(fault.Way, way) || way[len(way)-1] != round[0] {
		t.Fatalf("P1401: of %s: %v, not %v, %v", src, fault, way, round)
	}
}

// Files that say the same, over the same letters, have the same bytes; others have others (P1402, T3).
func TestTheSameBytes(t *testing.T) {
	met := map[string]string{}
	for _, l := range [][]string{
		{"", "line 0 : o / ;", "hyphen 3 : a o / a o;", "line 0 : a o (b @ 3)* / ;"},
		{"line 2 : a / ;", "line 2 : .* a / ;", "line 2 : a | . a / ;", "line 2 : a / ; line 3 : b a / ;", "line 2 : a / .* ;", "line 1 : a @ 1 / ;"},
		{"line 2 : a a* / b;", "line 2 : a* a / b;", "line 2 : a / b .* | o;"},
		{"hyphen 0 : (a | b)* v / b;", "hyphen 0 : (a* b*)* v / b | b;", "hyphen 0 : v / b; hyphen 1 : a / b;"},
		{"line 1 : (a @ 2 | b) .* / a;", "line 1 : (a | b) @ 2 .* | b .* / a;", "line 1 : b .* / a; line 3 : a .* / a;"},
		{"line 1 : a / b; hyphen 1 : b / a;", "hyphen 1 : b / a; line 1 : a / b;"},
		{"line 2 : / a;"}, {"line 2 : / b;"}, {"line 2 : a / a;"}, {"hyphen 2 : a / ;"}, {"emergency 2 : a / ;"}, {"line 3 : a / ;"},
	} {
		want := string(table.Save(ok(t, defs+l[0], most)))
		if other, is := met[want]; is || len(want) == 0 {
			t.Errorf("T3: %s and %s have the same bytes", l[0], other)
		}
		met[want] = l[0]
		for _, src := range l[1:] {
			if got := string(table.Save(ok(t, defs+src, most))); got != want {
				t.Errorf("T3: %s and %s have other bytes", l[0], src)
			}
		}
	}
}

// Text of a file that was read is made to the same (P1402, T4).
func TestTextAgain(t *testing.T) {
	d := &dice{67}
	for range 200 {
		src := d.rules(2)
		f, _, _ := syn.Parse(src)
		x, fault := Compile(src, 500)
		y, again := Compile(syn.Text(f), 500)
		if tell(x) != tell(y) || fmt.Sprint(fault) != fmt.Sprint(again) {
			t.Fatalf("T4: of %s: %v, %v; of its Text: %v, %v", src, x, fault, y, again)
		}
	}
}

// Any bytes, turned rules: a table or a fault, and the same each time (P1, P3, T2).
func TestAnyBytes(t *testing.T) {
	d := &dice{71}
	first := map[string]string{}
	ask := func(src string) string {
		held(t, src, 200)
		x, fault := Compile(src, 200)
		if fault.E != api.OK && tell(x) != tell(api.Table{}) || fault.E == api.OK && !table.Right(x) {
			t.Fatalf("T2: of %q: %v, %v", src, x, fault)
		}
		return fmt.Sprint(x, fault)
	}
	for range 3000 {
		b := []byte(d.rules(2))
		for range d.of(4) {
			b[d.of(len(b))] = byte(d.of(256))
		}
		if d.of(3) == 0 {
			b = b[:d.of(len(b)+1)]
		}
		first[string(b)] = ask(string(b))
	}
	for src, want := range first {
		if got := ask(src); got != want {
			t.Fatalf("P3: of %q: %s, then %s", src, want, got)
		}
	}
}

// What is answered is new: spoilt, it touches no other answer, nor one list another (P2).
func TestAnswersAreNew(t *testing.T) {
	src := defs + "line 2 : a . / b . ; hyphen 1 : v / a b* ;"
	want := tell(ok(t, src, most))
	x := ok(t, src, most)
	l := slices.Concat([][]int{x.Cuts, x.Letters, x.B.Out}, x.B.Next, x.F.Next)
	for which, row := range l {
		for i := range row[:cap(row)] {
			row[:cap(row)][i] = -1 - which
		}
	}
	for which, row := range l {
		for _, n := range row[:cap(row)] {
			if n != -1-which {
				t.Fatalf("P2: list %d shares memory with another", which)
			}
		}
	}
	for state, vecs := range x.F.Emit {
		for i := range vecs[:cap(vecs)] {
			vecs[:cap(vecs)][i] = api.Vec{state}
		}
	}
	for state, vecs := range x.F.Emit {
		for _, v := range vecs {
			if v != (api.Vec{state}) {
				t.Fatalf("P2: Emit %d shares memory with another", state)
			}
		}
	}
	if got := tell(ok(t, src, most)); got != want {
		t.Errorf("P2: %s, then %s", want, got)
	}
	_, fault := Compile(defs+"line 0 : a (b @ 3)* / ;", most)
	way := slices.Clone(fault.Way)
	for i := range fault.Round[:cap(fault.Round)] {
		fault.Round[:cap(fault.Round)][i] = -7
	}
	if !slices.Equal(fault.Way, way) {
		t.Error("P2: Way and Round share memory")
	}
}

// What nothing may break is forbidden in each category (P1401).
func TestNoRules(t *testing.T) {
	x := ok(t, defs, 1)
	for _, text := range texts(3) {
		for _, v := range run(x, text) {
			if v != trop.None() {
				t.Fatalf("P1401: of no rules over %v: %v", text, v)
			}
		}
	}
}
