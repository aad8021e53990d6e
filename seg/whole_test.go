package seg

import (
	"slices"
	"testing"

	"hyphen/api"
	"hyphen/back"
	"hyphen/det"
	"hyphen/mean"
	"hyphen/mini"
	"hyphen/part"
	"hyphen/side"
	"hyphen/syn"
	"hyphen/table"
)

// defs is the sets that patterns of these tests name: o has nothing, w what is broken, too.
const defs = "class a = 'a';class b = 'b';class v = 'a' | 'e' | U+10FFFF;class o = any - any;class w = U+FFFD | ' ';"

// most is a budget that no machine of these tests needs.
const most = 50000

// files is rules that take all chapters.
func files() []string {
	return []string{
		"",
		"line 0 : / ;",
		"line 0 : a / ;",
		"line 0 : / a;",
		"line 0 : o / ; hyphen 3 : a / o;",
		"line 1000000 : v (a | b)* / b* v;",
		"line 0 : w / any; emergency 4 : any / w;",
		"line 1 : a / b ; hyphen 2 : b / . a ; emergency 9 : . / .;",
		"hyphen 5 : (a @ 2 | . @ 4) b* / a ; line 0 : . . / v v ; emergency 7 : v{1,3} / w;",
		"line 2 : / a a* b ; line 3 : / . b ; line 4 : b / v ; hyphen 0 : a . . / . . a;",
	}
}

// made makes the table of rules, by chapters 4 to 11.
func made(t *testing.T, rules string) (api.File, api.Table) {
	t.Helper()
	f, at, e := syn.Parse(rules)
	if e != api.OK {
		t.Fatalf("%s: %d: %v", rules, at, e)
	}
	sets := syn.Sets(f)
	var x api.Table
	x.Cuts, x.Letters = part.Cuts(sets)
	in, count := part.In(sets, x.Cuts, x.Letters), part.Count(x.Letters)
	var lefts, rights []api.Side
	for _, r := range f.Rules {
		left, _ := side.Make(r.Left, f)
		right, _ := side.Make(r.Right, f)
		lefts, rights = append(lefts, side.Trim(left, in)), append(rights, side.Trim(right, in))
	}
	b, held, e := back.Make(rights, in, count, most)
	if e != api.OK {
		t.Fatalf("%s: %v", rules, e)
	}
	g, e := det.Make(f.Rules, lefts, in, count, held, most)
	if e != api.OK {
		t.Fatalf("%s: %v", rules, e)
	}
	x.B, _ = mini.Back(b)
	x.F, _ = mini.Fwd(g)
	return f, x
}

// What is told of texts, broken bytes in them too, is what the rules say; also by a table that was saved and loaded (T1, T4).
func TestTellsWhatRulesSay(t *testing.T) {
	d := &dice{47}
	for _, rules := range files() {
		f, x := made(t, defs+rules)
		loaded, is := table.Load(table.Save(x))
		if !is {
			t.Fatalf("T4: the table of %s is not loaded", rules)
		}
		for range 300 {
			s, scalars := d.text(d.of(9))
			want := mean.Breaks(f, scalars)
			told(t, x, s, want)
			told(t, loaded, s, want)
		}
	}
}

// Cursors go over a row of costs that the rules say, held against that row alone (T5).
func TestCursorsTellTheRow(t *testing.T) {
	d := &dice{53}
	for _, rules := range files() {
		f, x := made(t, defs+rules)
		for range 100 {
			s, scalars := d.text(d.of(9))
			row := mean.Breaks(f, scalars)
			c, at := New(x, s), 0
			for range 30 {
				at = d.move(t, c, row, at)
				stands(t, c, at, row[at])
			}
			if c.Len() != len(row) || !slices.Equal(c.row, row) {
				t.Fatalf("T5: of %s over %q: %s, not %s", rules, s, said(c.row), said(row))
			}
		}
	}
}

// move moves c, or asks it, from at on, and tells where it must be then.
func (d *dice) move(t *testing.T, c *Cursor, row []api.Vec, at int) int {
	t.Helper()
	to := at
	var is bool
	switch d.of(4) {
	case 0:
		to, is = at+1, c.Next()
	case 1:
		to, is = at-1, c.Prev()
	case 2:
		to = d.of(len(row)+2) - 1
		is = c.Seek(to)
	default:
		lo, hi, cat := d.of(len(row)+2)-1, d.of(len(row)+2)-1, d.of(5)-1
		want, wantIs := bestOf(row, lo, hi, cat)
		if best, is := c.Best(lo, hi, cat); best != want || is != wantIs {
			t.Fatalf("T5: of %s: Best of %d to %d, %d: %d, %v, not %d, %v", said(row), lo, hi, cat, best, is, want, wantIs)
		}
		return at
	}
	if is != (to >= 0 && to < len(row)) {
		t.Fatalf("T5: from %d to %d of %d: %v", at, to, len(row), is)
	}
	if !is {
		return at
	}
	return to
}
