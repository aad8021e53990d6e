package comp

import (
	"slices"
	"strings"
	"testing"

	"hyphen/api"
	"hyphen/mean"
	"hyphen/seg"
	"hyphen/syn"
	"hyphen/table"
	"hyphen/utf"
)

// bytes throws up to so many pieces of a text, some of them broken.
func (d *dice) bytes(long int) string {
	var w strings.Builder
	for range d.of(long + 1) {
		w.WriteString(pick(d, "a", "b", "e", "a", "b", " ", "\xc3\xa9", "\xe2\x82", "\xff", "\U0010ffff", "\x00"))
	}
	return w.String()
}

// through holds what a table, saved and loaded, says of s's bytes, by Segment and by a cursor, against what the rules say (T1, T4, T5).
func through(t *testing.T, src string, x api.Table, s string) {
	t.Helper()
	f, _, _ := syn.Parse(src)
	y, is := table.Load(table.Save(x))
	text, _ := utf.Decode(s)
	want := mean.Breaks(f, text)
	got, e := seg.Segment(y, s)
	if !is || e != api.OK || !slices.Equal(got, want) {
		t.Fatalf("T1: of %s, over %q: %v, %v, not %v", src, s, got, e, want)
	}
	c := seg.New(y, s)
	for at := range want {
		if i, v := c.At(); i != at || v != want[at] || c.Next() != (at+1 < len(want)) {
			t.Fatalf("T5: of %s, over %q, at %d: %d, %v", src, s, at, i, v)
		}
	}
}

// From rules as a text to costs of a text, by all layers (P1402: T1, T4, T5).
func TestThroughAllLayers(t *testing.T) {
	d := &dice{107}
	made := 0
	for range 300 {
		src := d.rules(4)
		x, fault := Compile(src, 1000)
		if fault.E != api.OK {
			continue
		}
		made++
		for range 6 {
			through(t, src, x, d.bytes(12))
		}
	}
	if made < 150 {
		t.Errorf("T1: only %d tables", made)
	}
}

// As long a text as may be (P1402, T1).
func TestLongTexts(t *testing.T) {
	src := defs + "line 0 : . a{2,3} / b v | (. .)* o ; hyphen 4 : (a @ 2 | b @ 1){1,4} b* / . . a ; emergency 9 : v / (a | b)* v . ;"
	x := ok(t, src, most)
	d := &dice{109}
	for range 3 {
		s := d.bytes(0)
		for len(s) < api.MaxText-60 {
			s += d.bytes(12)
		}
		through(t, src, x, s+strings.Repeat("a", api.MaxText-len(s)))
	}
}
