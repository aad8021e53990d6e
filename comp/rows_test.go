package comp

import (
	"fmt"
	"slices"
	"strings"
	"testing"

	"hyphen/api"
	"hyphen/back"
	"hyphen/mean"
	"hyphen/part"
	"hyphen/syn"
	"hyphen/table"
)

// holds tells, by chapter 6, in which of f's Rules the Right matches from a text's beginning on.
func holds(f api.File, text []int) string {
	var w strings.Builder
	for _, r := range f.Rules {
		fmt.Fprint(&w, len(mean.Ends(r.Right, f, text, 0)) > 0, " ")
	}
	return w.String()
}

// label tells what B says at a text's beginning.
func label(x api.Table, text []int) int {
	var l []int
	for _, n := range text {
		l = append(l, part.Letter(x.Cuts, x.Letters, n))
	}
	return back.Run(x.B, l)[0]
}

// A table has a label for each row of Rules whose Rights hold, and for none that no text has: 0 at the end of a text, each said by some state (P1401).
func TestLabelsAreRows(t *testing.T) {
	d := &dice{103}
	several, l := 0, texts(4)
	for range 400 {
		src := d.rules(2)
		x, fault := Compile(src, 200)
		if fault.E != api.OK {
			continue
		}
		f, _, _ := syn.Parse(src)
		rows, labels := map[string]int{}, map[int]string{}
		for _, text := range l {
			row, at := holds(f, text), label(x, text)
			if n, is := rows[row]; is && n != at {
				t.Fatalf("P1401: of %s, over %v: label %d, not %d", src, text, at, n)
			}
			if was, is := labels[at]; is && was != row {
				t.Fatalf("P1401: of %s, over %v: label %d says %s, not %s", src, text, at, row, was)
			}
			rows[row], labels[at] = at, row
		}
		if rows[holds(f, nil)] != 0 || len(labels) > len(x.F.Emit[0]) {
			t.Fatalf("P1401: of %s: %v", src, labels)
		}
		for at := range x.F.Emit[0] {
			if !slices.Contains(x.B.Out, at) {
				t.Fatalf("P1401: of %s: no state says label %d", src, at)
			}
		}
		if len(labels) > 2 {
			several++
		}
	}
	if several < 30 {
		t.Errorf("P1401: only %d files have several rows", several)
	}
}

// Rules whose Rights hold together, or never, or always, make no more rows; which of them hold makes others (P1401).
func TestHowManyLabels(t *testing.T) {
	for src, want := range map[string]int{
		"":                                     1,
		"line 1 : / ;":                         1,
		"line 1 : / o;":                        1,
		"line 1 : a / .* ; line 2 : a / o a;":  1,
		"line 1 : / a;":                        2,
		"line 1 : / a; line 2 : a / a | a a;":  2,
		"line 1 : / a; line 2 : a / a a;":      3,
		"line 1 : / a; line 2 : / b;":          3,
		"line 1 : / a .; line 2 : / . b;":      4,
		"line 1 : / a .; line 2 : / . b .* o;": 2,
		"line 1 : o / a .; line 2 : o / . b;":  4, // of no use, but the Rights part the texts
	} {
		x := ok(t, defs+src, most)
		for _, vecs := range x.F.Emit {
			if len(vecs) != want || slices.Max(x.B.Out) != want-1 {
				t.Fatalf("P1401: of %s: %v, not %d labels", src, x, want)
			}
		}
	}
}

// Letters are those of all Defs, whether a Rule names them or not; Defs that part nothing make none (P1401).
func TestLettersOfDefs(t *testing.T) {
	for src, want := range map[string]string{
		"":                               "[0] [0]",
		"class o = !any;":                "[0] [0]",
		"class x = any;class y = !x;":    "[0] [0]",
		"class x = any;line 3 : x / x;":  "[0] [0]",
		"class x = U+0;":                 "[0 1] [0 1]",
		"class x = U+10FFFF;":            "[0 1114111] [0 1]",
		"class x = 'a';line 3 : . / . ;": "[0 97 98] [0 1 0]",
		"class x = !'a';class y = ! x;":  "[0 97 98] [0 1 0]",
		"class x = 'a'..'c' | 'x' | 'z';class y = 'c'..'f' | 'z';": "[0 97 99 100 103 120 121 122 123] [0 1 2 3 0 1 0 2 0]",
		"class x = U+D800..U+DFFF;":                                "[0 55296 57344] [0 1 0]",
	} {
		x := ok(t, src, most)
		if got := fmt.Sprint(x.Cuts, " ", x.Letters); got != want {
			t.Errorf("P1401: of %s: letters %s, not %s", src, got, want)
		}
		for _, row := range slices.Concat(x.B.Next, x.F.Next) {
			if len(row) != part.Count(x.Letters) {
				t.Errorf("P1401: of %s: %v, of other letters than %v", src, row, x.Letters)
			}
		}
	}
}

// Two answers have nothing in common: one of them spoilt, the other stays, and so does what is told next (P2, P3, P7).
func TestTwoAnswers(t *testing.T) {
	src := defs + "line 2 : a . / b . ; hyphen 1 : v / a b* ;"
	x, y := ok(t, src, most), ok(t, src, most)
	want, bytes := tell(y), string(table.Save(y))
	if tell(x) != want {
		t.Fatalf("P3: %v, then %v", x, y)
	}
	for _, l := range slices.Concat([][]int{x.Cuts, x.Letters, x.B.Out}, x.B.Next, x.F.Next) {
		clear(l[:cap(l)])
	}
	for _, l := range x.F.Emit {
		clear(l[:cap(l)])
	}
	if tell(y) != want || string(table.Save(ok(t, src, most))) != bytes {
		t.Errorf("P2: %v, not %s", y, want)
	}
	rounds := defs + "line 0 : a (b a @ 3)* / ;"
	_, one := Compile(rounds, most)
	_, other := Compile(rounds, most)
	was := fmt.Sprint(other)
	clear(one.Way[:cap(one.Way)])
	clear(one.Round[:cap(one.Round)])
	_, again := Compile(rounds, most)
	if fmt.Sprint(other) != was || fmt.Sprint(again) != was {
		t.Errorf("P2: %v, %v, not %s", other, again, was)
	}
}
